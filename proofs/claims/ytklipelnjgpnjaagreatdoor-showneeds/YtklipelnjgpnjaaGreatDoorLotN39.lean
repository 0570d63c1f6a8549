import Derived.Test.YtklipelnjgpnjaaGreatDoorLotN38
import Derived.Test.YtklipelnjgpnjaaGreatDoorLotN16
import Derived.Test.YtklipelnjgpnjaaGreatDoorLotN17
import Derived.Maps.AppendAt
import Derived.Test.YtklipelnjgpnjaaGreatDoorLotN10
set_option maxHeartbeats 64000000
set_option maxRecDepth 100000
namespace Go.Proofs.YtklipelnjgpnjaaGreatDoor
open Go.RowKit

section
variable {c : PC} {w : World} {i nest bud : Nat} {vt vp : Value} {ts : List Tk} {ns : List (Nd × Nat)}
theorem a0I {x : List UInt8} (h : a1a.contains x = true) : M3 x := a3s (by simpa using h)
theorem a6B (h : PS c w i vt vp ts nest bud ns) :
  Calls Tryz.prog 230 #[.pointer (some ⟨c.g, 0, none⟩)] w fun e w' => e = .returned (.int .i64 (s0 ts : Int)) ∧ Ret c w vt vp (o9 ts) nest bud ns w' := by
 have C1 := a2B h V7 (a0I (by decide))
 have HC2 : Hid (∀ W, w.grownBy W none → Calls Tryz.prog 229 #[.pointer (some ⟨c.g, 0, none⟩), str R0] W fun e w' => e = .returned (.bool (isB ts R0)) ∧ a6Z c W vt vp ts nest bud ns (isB ts R0) w') := fun W G => a2B (h.keep G) R0 (a0I (by decide))
 have HP : Hid (PS c w i vt vp ts nest bud ns) := h
 unfold o9 s0
 cases h1 : isB ts V7 with
 | true =>
  rw [h1] at C1
  clear h HC2
  rw [if_pos rfl]
  go_enter Tryz.func230, Tryz.ntmps230
  go_wp2_with fail
  refine C1.mono ?_
  rintro e w1 ⟨rfl, R⟩
  clear C1
  go_wp2
  go_ret
  exact ⟨rfl, Ret.less R (Nat.le_succ _)⟩
 | false =>
  rw [h1] at C1
  rw [if_neg (by simp)]
  cases h2 : isB ts R0 with
  | true =>
   rw [h2] at HC2
   rw [if_pos rfl]
   clear h
   go_enter Tryz.func230, Tryz.ntmps230
   go_wp2_with fail
   refine C1.mono ?_
   rintro e w1 ⟨rfl, hG⟩
   have G1 : w.grownBy w1 none := hG
   clear C1 hG
   go_wp2_with fail
   refine (HC2.out w1 G1).mono ?_
   rintro e w2 ⟨rfl, R⟩
   clear HC2
   go_wp2
   go_ret
   exact ⟨rfl, Ret.of (GB.non G1) (fun _ _ h => h) (Ret.less R (Nat.le_succ _))⟩
  | false =>
   rw [h2] at HC2
   rw [if_neg (by simp)]
   clear h
   go_enter Tryz.func230, Tryz.ntmps230
   go_wp2_with fail
   refine C1.mono ?_
   rintro e w1 ⟨rfl, hG⟩
   have G1 : w.grownBy w1 none := hG
   clear C1 hG
   go_wp2_with fail
   refine (HC2.out w1 G1).mono ?_
   rintro e w2 ⟨rfl, hG⟩
   have G2 : w1.grownBy w2 none := hG
   clear HC2 hG
   go_wp2
   go_ret
   have G := d3 G1 G2
   exact ⟨rfl, Ret.same (HP.out.keep G) (GB.non G)⟩
theorem a6o (h : PS c w i vt vp ts nest bud ns) :
  Calls Tryz.prog 226 #[.pointer (some ⟨c.g, 0, none⟩)] w (Z3 c w vt vp nest (bud + 1) ns (fun n : Nat => .int .u32 (n : Int)) (d6 (m3 J2 ts) j7)) := by
 have C1 := a2i h J2 (a0I (by decide))
 cases hr : m3 J2 ts with
 | error er =>
  rw [hr] at C1
  rw [ab9]
  clear h hr
  go_enter Tryz.func226, Tryz.ntmps226
  go_wp2_with fail
  refine C1.mono ?_
  rintro e w1 ⟨rfl, G⟩
  go_wp2
  exact ⟨rfl, rfl, G⟩
 | ok r =>
  rw [hr] at C1
  rw [M6]
  obtain ⟨nr, hnr⟩ : ∃ x, j7 r = x := ⟨_, rfl⟩
  have HN : Hid (j7 r = nr) := hnr
  rw [hnr]
  clear h hr hnr
  go_enter Tryz.func226, Tryz.ntmps226
  go_wp2_with fail
  refine C1.mono ?_
  rintro e w1 ⟨rfl, i1, vt1, vp1, H1, G1, F1⟩
  clear C1
  have CN := a2x (H1.less (Nat.le_succ bud))
  rw [HN.out] at CN
  clear H1
  go_wp2_with fail
  refine CN.mono ?_
  clear CN
  cases nr with
  | error er =>
   rintro e w2 ⟨rfl, G2⟩
   go_wp2
   exact ⟨rfl, rfl, G1.trans G2 F1⟩
  | ok v =>
   obtain ⟨m, r2⟩ := v
   rintro e w2 ⟨rfl, R2⟩
   go_wp2
   go_ret
   exact ⟨rfl, Ret.of G1 F1 R2⟩
theorem a6a : nd0.cells.toArray = #[.int .i64 0, .int .i64 0, .int .u32 0, .int .u32 0, .int .i64 0, .int .i64 0, .int .i64 0, .int .u8 0, .int .u8 0, .int .u8 0, .int .u8 0, .int .u8 0, .int .u8 0, .int .u8 0, .int .u8 0, .int .u8 0, .int .u8 0, .int .u8 0, .int .u8 0, .int .u8 0, .int .u8 0, .int .u8 0, .int .u8 0, .int .i64 0] := by kernel_rfl
theorem a0A (x : Nd) : (Tryz.prog.info? 43).map (·.size) = some x.cells.toArray.size := a3d
theorem a2L (x : Nd) : x.cells.toArray.all (·.oneCell') = true := all_oneCell_toArray x.cells_one
theorem aM8 (of side : Nat) : (O6 of side 0 0).cells.toArray = #[.int .i64 16, .int .i64 0, .int .u32 0, .int .u32 0, .int .i64 0, .int .i64 (of : Int), .int .i64 (side : Int), .int .u8 0, .int .u8 0, .int .u8 0, .int .u8 0, .int .u8 0, .int .u8 0, .int .u8 0, .int .u8 0, .int .u8 0, .int .u8 0, .int .u8 0, .int .u8 0, .int .u8 0, .int .u8 0, .int .u8 0, .int .u8 0, .int .i64 0] := by kernel_rfl
structure PV (c : PC) (w : World) (vt vp : Value) (W : World) (i' : Nat) (vt' vp' : Value) (ts' : List Tk) (nest bud' : Nat) (ns : List (Nd × Nat)) (R V : Nat) (y x : Nd) : Prop where
 ps : PS c W i' vt' vp' ts' nest bud' ns
 gb : GB w W (d4 c.g vt vp)
 sh : ∀ x, x < w.heap.size → d4 c.g vt' vp' x → d4 c.g vt vp x
 fV : ¬ d4 c.g vt' vp' V
 fR : ¬ d4 c.g vt' vp' R
 var : VAt W V 43 x.cells.toArray
 res : VAt W R 43 y.cells.toArray
 lV : w.heap.size ≤ V
 lR : w.heap.size ≤ R
 ne : R ≠ V
theorem PV.keep {W W2 : World} {i1 bud1 R V : Nat} {vt1 vp1 : Value} {ts1 : List Tk} {y x : Nd} (h : PV c w vt vp W i1 vt1 vp1 ts1 nest bud1 ns R V y x) (G : W.grownBy W2 none) : PV c w vt vp W2 i1 vt1 vp1 ts1 nest bud1 ns R V y x :=
 { h with ps := h.ps.keep G, gb := h.gb.trans (GB.non (S := d4 c.g vt vp) G) (fun _ _ h => h), var := h.var.kept G, res := h.res.kept G }
theorem PV.less {W : World} {i1 bud1 b R V : Nat} {vt1 vp1 : Value} {ts1 : List Tk} {y x : Nd} (h : PV c w vt vp W i1 vt1 vp1 ts1 nest bud1 ns R V y x) (hb : b ≤ bud1) : PV c w vt vp W i1 vt1 vp1 ts1 nest b ns R V y x := { h with ps := h.ps.less hb }
theorem PV.step {W W2 : World} {i1 bud1 bud2 R V : Nat} {vt1 vp1 : Value} {ts1 ts2 : List Tk} {y x : Nd} (h : PV c w vt vp W i1 vt1 vp1 ts1 nest bud1 ns R V y x) (r : Ret c W vt1 vp1 ts2 nest bud2 ns W2) : ∃ i2 vt2 vp2, PV c w vt vp W2 i2 vt2 vp2 ts2 nest bud2 ns R V y x := by
 obtain ⟨i2, vt2, vp2, p, g, f⟩ := r
 exact ⟨i2, vt2, vp2, p, h.gb.trans g h.sh, fun x hx k => h.sh x hx (f x (Nat.lt_of_lt_of_le hx h.gb.size) k), fun e => h.fV (f V h.var.lt e), fun e => h.fR (f R h.res.lt e), g.vat h.var h.fV, g.vat h.res h.fR, h.lV, h.lR, h.ne⟩
theorem PV.err {W W2 : World} {i1 bud1 R V : Nat} {vt1 vp1 : Value} {ts1 : List Tk} {y x : Nd} (h : PV c w vt vp W i1 vt1 vp1 ts1 nest bud1 ns R V y x) (g : GB W W2 (d4 c.g vt1 vp1)) : GB w W2 (d4 c.g vt vp) := h.gb.trans g h.sh
theorem PV.away {i0 nest0 bud0 : Nat} {ts0 : List Tk} {ns0 : List (Nd × Nat)} {S : Nat → Prop} {W W2 : World} {i1 bud1 R V : Nat} {vt1 vp1 : Value} {ts1 : List Tk} {y x y2 x2 : Nd} (hw : PS c w i0 vt vp ts0 nest0 bud0 ns0) (h : PV c w vt vp W i1 vt1 vp1 ts1 nest bud1 ns R V y x) (K : GB W W2 S) (hS : ∀ z, S z → z = V ∨ z = R) (A : VAt W2 V 43 x2.cells.toArray) (B : VAt W2 R 43 y2.cells.toArray) : PV c w vt vp W2 i1 vt1 vp1 ts1 nest bud1 ns R V y2 x2 :=
 { h with
  ps := h.ps.awayG K (fun z hz => by
   have hz2 : w.heap.size ≤ z ∧ ¬ d4 c.g vt1 vp1 z := by
    rcases hS z hz with rfl | rfl
    ·exact ⟨h.lV, h.fV⟩
    ·exact ⟨h.lR, h.fR⟩
   exact ⟨hz2.2, fun e => by have := (hw.toks.lt z e).2; omega, Nat.le_trans hw.grown.size hz2.1⟩)
  gb := h.gb.trans K (fun z hz hs => by have := h.lV; have := h.lR; rcases hS z hs with rfl | rfl <;> omega)
  var := A, res := B }
theorem PV.set {i0 nest0 bud0 : Nat} {ts0 : List Tk} {ns0 : List (Nd × Nat)} {W : World} {i1 bud1 R V : Nat} {vt1 vp1 : Value} {ts1 : List Tk} {y x : Nd} (hw : PS c w i0 vt vp ts0 nest0 bud0 ns0) (h : PV c w vt vp W i1 vt1 vp1 ts1 nest bud1 ns R V y x) (k : Nat) (v : Value) (x2 : Nd) (e : x.cells.toArray.setIfInBounds k v = x2.cells.toArray) : PV c w vt vp (W.setCell ⟨V, k, none⟩ v) i1 vt1 vp1 ts1 nest bud1 ns R V y x2 :=
 PV.away hw h (GB.of (S := fun z => z = V) (S8 W V k v) (fun z hz => by cases hz; rfl)) (fun z hz => .inl hz) (by have := h.var.set k v; rw [e] at this; exact this) (h.res.setOther v h.ne)
theorem PV.setR {i0 nest0 bud0 : Nat} {ts0 : List Tk} {ns0 : List (Nd × Nat)} {W : World} {i1 bud1 R V : Nat} {vt1 vp1 : Value} {ts1 : List Tk} {y x : Nd} (hw : PS c w i0 vt vp ts0 nest0 bud0 ns0) (h : PV c w vt vp W i1 vt1 vp1 ts1 nest bud1 ns R V y x) (y2 : Nd) : PV c w vt vp (W.setRow R y2.cells.toArray) i1 vt1 vp1 ts1 nest bud1 ns R V y2 x :=
 PV.away hw h (GB.of (S := fun z => z = R) (x5 (World.grownBy.refl W (some R)) R _ (.inl rfl)) (fun z hz => by cases hz; rfl)) (fun z hz => .inr hz) (h.var.other _ (fun e => h.ne e.symm)) (h.res.setRow _)
theorem PV.ret {W : World} {i1 bud1 R V : Nat} {vt1 vp1 : Value} {ts1 : List Tk} {y x : Nd} (h : PV c w vt vp W i1 vt1 vp1 ts1 nest bud1 ns R V y x) : Ret c w vt vp ts1 nest bud1 ns W := ⟨i1, vt1, vp1, h.ps, h.gb, h.sh⟩
theorem a6m (h : PS c w i vt vp ts nest bud ns) (of side : Nat) :
  Calls Tryz.prog 232 #[.pointer (some ⟨c.g, 0, none⟩), .int .i64 (of : Int), .int .i64 (side : Int)] w (Z3 c w vt vp nest (bud + 1) ns (fun x : Nd => .agg x.cells.toArray) (U3 of side ts)) := by
 have HP : Hid (PS c w i vt vp ts nest bud ns) := h
 obtain ⟨ans, hans⟩ : ∃ a, U3 of side ts = a := ⟨_, rfl⟩
 have HANS : Hid (U3 of side ts = ans) := hans
 rw [hans]
 have K1 := World.grownBy_alloc w (.cells nd0.cells.toArray 43) none
 have RA := VAt.alloc w 43 nd0.cells.toArray
 clear h hans
 go_enter Tryz.func232, Tryz.ntmps232
 go_upto_region 1 with fail
 rw [← a6a]
 generalize w.alloc (.cells nd0.cells.toArray 43) = w1 at *
 obtain ⟨R, hR⟩ : ∃ R, w.heap.size = R := ⟨_, rfl⟩
 rw [hR] at RA ⊢
 have HR2 : Hid (w.heap.size ≤ R) := Nat.le_of_eq hR
 clear hR
 have VA0 := VAt.alloc w1 43 nd0.cells.toArray
 rw [a6a] at VA0
 go_upto_region 2 with (refine wpList_store_row rfl 43 (.tmp 7) (.tmp 10) rfl w1.heap.size (O6 of side 0 0).cells.toArray rfl (by kernel_rfl) 43 _ VA0 (a0A _) rfl (a2L _) ?_)
 rw [World.setRow_alloc_new]
 rw [← aM8 of side]
 clear VA0
 have K2 := World.grownBy_alloc w1 (.cells (O6 of side 0 0).cells.toArray 43) none
 have RA2 := RA.kept K2
 have VA := VAt.alloc w1 43 (O6 of side 0 0).cells.toArray
 have HV : Hid (w.heap.size ≤ w1.heap.size ∧ R ≠ w1.heap.size) := ⟨K1.size, fun e => by have := RA.lt; omega⟩
 have G := d3 K1 K2
 clear K1 K2 RA
 generalize w1.alloc (.cells (O6 of side 0 0).cells.toArray 43) = w2 at *
 generalize w1.heap.size = V at *
 have HP2 : Hid (PS c w2 i vt vp ts nest bud ns) := HP.out.keep G
 have C1 := a2B HP2.out S0 (a0I (by decide))
 cases hb : isB ts S0 with
 | true =>
  rw [hb] at C1
  have HA2 : Hid (d6 (j7 ts.tail) (fun p => .ok (O6 of side p.1 p.1, p.2)) = ans) := by
   show _ = ans
   rw [← HANS.out, U3, if_pos hb]
  clear hb HANS
  obtain ⟨nr, hnr⟩ : ∃ x, j7 ts.tail = x := ⟨_, rfl⟩
  have HN : Hid (j7 ts.tail = nr) := hnr
  rw [hnr] at HA2
  clear hnr
  go_wp2_with fail
  refine C1.mono ?_
  rintro e w3 ⟨rfl, i3, vt3, vp3, H3, G3, F3⟩
  clear C1
  have HF : Hid (∀ x, w.heap.size ≤ x → x < w2.heap.size → ¬ d4 c.g vt3 vp3 x) := fun x hx hx2 e => HP.out.not_foot hx (F3 x hx2 e)
  have VA3 := G3.vat VA (HP.out.not_foot HV.out.1)
  have RA3 := G3.vat RA2 (HP.out.not_foot HR2.out)
  have HG3 : Hid (GB w w3 (d4 c.g vt vp) ∧ ∀ x, x < w.heap.size → d4 c.g vt3 vp3 x → d4 c.g vt vp x) := ⟨(GB.non G).trans G3 (fun _ _ h => h), fun x hx => F3 x (Nat.lt_of_lt_of_le hx G.size)⟩
  have HVL : Hid (V < w2.heap.size ∧ R < w2.heap.size) := ⟨VA.lt, RA2.lt⟩
  have CN := a2x (H3.less (Nat.le_succ bud))
  rw [HN.out] at CN
  clear G G3 F3 VA RA2 H3 HP2
  go_wp2_with fail
  refine CN.mono ?_
  clear CN
  cases nr with
  | error er =>
   have HA3 : Hid (ans = .error er) := HA2.out.symm
   rintro e w4 ⟨rfl, G4⟩
   go_wp2
   refine ⟨rfl, ?_⟩
   rw [HA3.out]
   exact ⟨rfl, HG3.out.1.trans G4 HG3.out.2⟩
  | ok v =>
   obtain ⟨m, r2⟩ := v
   have HA3 : Hid (ans = .ok (O6 of side m m, r2)) := HA2.out.symm
   rintro e w4 ⟨rfl, i4, vt4, vp4, H4, G4, F4⟩
   have VA4 := G4.vat VA3 (HF.out V HV.out.1 HVL.out.1)
   have RA4 := G4.vat RA3 (HF.out R HR2.out HVL.out.2)
   have HQ : Hid (PS c w4 i4 vt4 vp4 r2 nest (bud + 1) ns ∧ GB w w4 (d4 c.g vt vp) ∧ (∀ x, x < w.heap.size → d4 c.g vt4 vp4 x → d4 c.g vt vp x) ∧ ¬ d4 c.g vt4 vp4 V ∧ ¬ d4 c.g vt4 vp4 R) :=
    ⟨H4, HG3.out.1.trans G4 HG3.out.2, fun x hx h => HG3.out.2 x hx (F4 x (Nat.lt_of_lt_of_le hx HG3.out.1.size) h), fun e => HF.out V HV.out.1 HVL.out.1 (F4 V VA3.lt e), fun e => HF.out R HR2.out HVL.out.2 (F4 R RA3.lt e)⟩
   clear HA2 HG3 HF HVL H4 G4 F4 VA3 RA3
   have v2 : w4.cell? ⟨V, 2, none⟩ = some (.int .u32 0) := VA4.cell 2
   have v2f := VA4.free 2
   have VA5 := VA4.set 2 (.int .u32 (m : Int))
   rw [show (O6 of side 0 0).cells.toArray.setIfInBounds 2 (.int .u32 (m : Int)) = (O6 of side m 0).cells.toArray by kernel_rfl] at VA5
   have RA5 := RA4.setOther (k := V) (i := 2) (.int .u32 (m : Int)) HV.out.2
   have HK5 : Hid (GB w4 (w4.setCell ⟨V, 2, none⟩ (.int .u32 (m : Int))) (fun x => x = V ∨ x = R)) := GB.of (S8 w4 V 2 _) (fun x hx => by cases hx; exact .inl rfl)
   go_upto_region 4 with fail
   generalize w4.setCell ⟨V, 2, none⟩ (.int .u32 (m : Int)) = w5 at *
   clear v2 v2f VA4 RA4
   have v2 : w5.cell? ⟨V, 2, none⟩ = some (.int .u32 (m : Int)) := VA5.cell 2
   have v3 : w5.cell? ⟨V, 3, none⟩ = some (.int .u32 0) := VA5.cell 3
   have v3f := VA5.free 3
   have VA6 := VA5.set 3 (.int .u32 (m : Int))
   rw [show (O6 of side m 0).cells.toArray.setIfInBounds 3 (.int .u32 (m : Int)) = (O6 of side m m).cells.toArray by kernel_rfl] at VA6
   have RA6 := RA5.setOther (k := V) (i := 3) (.int .u32 (m : Int)) HV.out.2
   have HK6 : Hid (GB w4 (w5.setCell ⟨V, 3, none⟩ (.int .u32 (m : Int))) (fun x => x = V ∨ x = R)) := HK5.out.trans (GB.of (S := fun x => x = V ∨ x = R) (S8 w5 V 3 (.int .u32 (m : Int))) (fun x hx => by cases hx; exact .inl rfl)) (fun _ _ h => h)
   go_upto_region 5 with fail
   generalize w5.setCell ⟨V, 3, none⟩ (.int .u32 (m : Int)) = w6 at *
   clear v2 v3 v3f VA5 RA5 HK5
   obtain ⟨X, hX⟩ : ∃ X, O6 of side m m = X := ⟨_, rfl⟩
   rw [hX] at VA6
   have HX : Hid (O6 of side m m = X) := hX
   clear hX
   go_wp2_with (first
    | refine wpList_load_row rfl 43 (.tmp 7) rfl V rfl 43 _ (0, 0) _ VA6 Tryz.underlying43 rfl (a0A _) ?_
    | refine wpList_store_row rfl 43 (.tmp 6) (.tmp 23) rfl R X.cells.toArray rfl rfl 43 _ RA6 (a0A _) rfl (a2L _) ?_)
   refine bodyPost_ret (a1S rfl _ _ R _ _ rfl (RA6.setRow _) Tryz.underlying43 rfl (a0A _)) rfl ?_
   rw [HA3.out, HX.out]
   obtain ⟨H4, G4, F4, fV, fR⟩ := HQ.out
   refine ⟨rfl, Ret.finG HP.out G4 F4 H4 (HK6.out.trans (GB.of (S := fun x => x = V ∨ x = R) (x5 (World.grownBy.refl w6 (some R)) R X.cells.toArray (.inl rfl)) (fun x hx => by cases hx; exact .inr rfl)) (fun _ _ h => h)) ?_⟩
   rintro x (rfl | rfl)
   ·exact ⟨HV.out.1, fV⟩
   ·exact ⟨HR2.out, fR⟩
 | false =>
  rw [hb] at C1
  have HA2 : Hid (d6 (m3 M1 ts) (fun r => d6 (j7 r) fun p => d6 (m3 [45] p.2) fun r2 => d6 (j7 r2) fun q => .ok (O6 of side p.1 q.1, q.2)) = ans) := by
   show _ = ans
   rw [← HANS.out, U3, if_neg (by rw [hb]; simp)]
  have Q2 : PV c w vt vp w2 i vt vp ts nest bud ns R V nd0 (O6 of side 0 0) := ⟨HP2.out, GB.non G, fun _ _ h => h, HP.out.not_foot HV.out.1, HP.out.not_foot HR2.out, VA, RA2, HV.out.1, HR2.out, HV.out.2⟩
  clear hb HANS VA RA2 G HP2
  go_wp2_with fail
  refine C1.mono ?_
  rintro e w3 ⟨rfl, hG⟩
  have G3 : w2.grownBy w3 none := hG
  have Q3 := Q2.keep G3
  have C2 := a2i Q3.ps M1 (a0I (by decide))
  clear C1 hG G3 Q2
  generalize m3 M1 ts = mr at *
  go_wp2_with fail
  refine C2.mono ?_
  clear C2
  cases mr with
  | error er =>
   have HA3 : Hid (ans = .error er) := HA2.out.symm
   rintro e w4 ⟨rfl, G4⟩
   go_wp2
   refine ⟨rfl, ?_⟩
   rw [HA3.out]
   exact ⟨rfl, Q3.err G4⟩
  | ok r =>
   rintro e w4 ⟨rfl, R4⟩
   obtain ⟨i4, vt4, vp4, Q4⟩ := Q3.step R4
   have C3 := a2x (Q4.ps.less (Nat.le_succ bud))
   rw [M6] at HA2
   clear Q3 R4
   generalize j7 r = nr at *
   go_wp2_with fail
   refine C3.mono ?_
   clear C3
   cases nr with
   | error er =>
    have HA3 : Hid (ans = .error er) := HA2.out.symm
    rintro e w5 ⟨rfl, G5⟩
    go_wp2
    refine ⟨rfl, ?_⟩
    rw [HA3.out]
    exact ⟨rfl, Q4.err G5⟩
   | ok v =>
    obtain ⟨n, r5⟩ := v
    rintro e w5 ⟨rfl, R5⟩
    obtain ⟨i5, vt5, vp5, Q5⟩ := Q4.step R5
    rw [M6] at HA2
    clear Q4 R5
    have Q6 := PV.set HP.out Q5 2 (.int .u32 (n : Int)) (O6 of side n 0) (by kernel_rfl)
    have v2 : w5.cell? ⟨V, 2, none⟩ = some (.int .u32 0) := Q5.var.cell 2
    have v2f := Q5.var.free 2
    clear Q5
    go_upto_region 8 with fail
    generalize w5.setCell ⟨V, 2, none⟩ (.int .u32 (n : Int)) = w6 at *
    have C4 := a2i (Q6.ps.less (Nat.le_succ bud)) [45] (z8 (by decide) (by kernel_rfl))
    clear v2 v2f
    generalize m3 [45] r5 = mr at *
    go_wp2_with fail
    refine C4.mono ?_
    clear C4
    cases mr with
    | error er =>
     have HA3 : Hid (ans = .error er) := HA2.out.symm
     rintro e w7 ⟨rfl, G7⟩
     go_wp2
     refine ⟨rfl, ?_⟩
     rw [HA3.out]
     exact ⟨rfl, Q6.err G7⟩
    | ok r7 =>
     rintro e w7 ⟨rfl, R7⟩
     obtain ⟨i7, vt7, vp7, Q7⟩ := Q6.step R7
     have C5 := a2x (Q7.ps.less (Nat.le_succ bud))
     rw [M6] at HA2
     clear Q6 R7
     generalize j7 r7 = nr at *
     go_wp2_with fail
     refine C5.mono ?_
     clear C5
     cases nr with
     | error er =>
      have HA3 : Hid (ans = .error er) := HA2.out.symm
      rintro e w8 ⟨rfl, G8⟩
      go_wp2
      refine ⟨rfl, ?_⟩
      rw [HA3.out]
      exact ⟨rfl, Q7.err G8⟩
     | ok v =>
      obtain ⟨m, r8⟩ := v
      rintro e w8 ⟨rfl, R8⟩
      obtain ⟨i8, vt8, vp8, Q8⟩ := Q7.step R8
      have HA3 : Hid (ans = .ok (O6 of side n m, r8)) := HA2.out.symm
      clear Q7 R8 HA2
      have Q9 := PV.set HP.out Q8 3 (.int .u32 (m : Int)) (O6 of side n m) (by kernel_rfl)
      have v3 : w8.cell? ⟨V, 3, none⟩ = some (.int .u32 0) := Q8.var.cell 3
      have v3f := Q8.var.free 3
      clear Q8
      go_upto_region 10 with fail
      generalize w8.setCell ⟨V, 3, none⟩ (.int .u32 (m : Int)) = w9 at *
      clear v3 v3f
      generalize O6 of side n m = X at *
      have VA9 := Q9.var
      have RA9 := Q9.res
      have HQ : Hid (PV c w vt vp (w9.setRow R X.cells.toArray) i8 vt8 vp8 r8 nest (bud + 1) ns R V X X) := PV.setR HP.out Q9 X
      clear Q9
      go_wp2_with (first
       | refine wpList_load_row rfl 43 (.tmp 7) rfl V rfl 43 _ (0, 0) _ VA9 Tryz.underlying43 rfl (a0A _) ?_
       | refine wpList_store_row rfl 43 (.tmp 6) (.tmp 42) rfl R X.cells.toArray rfl rfl 43 _ RA9 (a0A _) rfl (a2L _) ?_)
      refine bodyPost_ret (a1S rfl _ _ R _ _ rfl (RA9.setRow _) Tryz.underlying43 rfl (a0A _)) rfl ?_
      rw [HA3.out]
      exact ⟨rfl, HQ.out.ret⟩

end
theorem a4b {s : ByteArray} {l : List UInt8} (h : sl s = l) (i : Nat) : gd s i = (l.getD i 0).toNat := by unfold gd; unfold sl at h; rw [h]
theorem un4 {s : ByteArray} {a b c d : UInt8} (h : sl s = [a, b, c, d]) :
  a0e s = (F9 a.toNat && F9 b.toNat && F9 c.toNat && F9 d.toNat) ∧
  (a0e s = true → unV s = [UInt8.ofNat (16 * q8 a.toNat + q8 b.toNat), UInt8.ofNat (16 * q8 c.toNat + q8 d.toNat)]) := by
 have hs : s.size = 4 := by rw [← m8, h]; rfl
 have g0 : gd s 0 = a.toNat := a4b h 0
 have g1 : gd s 1 = b.toNat := a4b h 1
 have g2 : gd s 2 = c.toNat := a4b h 2
 have g3 : gd s 3 = d.toNat := a4b h 3
 refine ⟨?_, fun ho => ?_⟩
 ·simp [a0e, hs, a0N, g0, g1, g2, g3, Bool.and_assoc]
 ·rw [unV, if_pos ho, hs]
  simp [a0q, g0, g1, g2, g3]
theorem a47 (c : Nat) : q8 c < 16 := by unfold q8; split <;> (try split) <;> omega
theorem at0 (a b c d : Nat) (ha : a < 16) (hb : b < 16) (hc : c < 16) (hd : d < 16) : a1H [UInt8.ofNat (16 * a + b), UInt8.ofNat (16 * c + d)] 0 2 = ((4096 * a + 256 * b + 16 * c + d : Nat) : Int) := by
 have e1 : (UInt8.ofNat (16 * a + b)).toNat = 16 * a + b := by rw [UInt8.toNat_ofNat_of_lt' (by show _ < 256; omega)]
 have e2 : (UInt8.ofNat (16 * c + d)).toNat = 16 * c + d := by rw [UInt8.toNat_ofNat_of_lt' (by show _ < 256; omega)]
 have ho : okB [UInt8.ofNat (16 * a + b), UInt8.ofNat (16 * c + d)].length 0 2 = true := show okB 2 0 2 = true by decide
 rw [a1H, if_pos ho]
 show (((0 * 256 + (UInt8.ofNat (16 * a + b)).toNat) * 256 + (UInt8.ofNat (16 * c + d)).toNat : Nat) : Int) = _
 rw [e1, e2]
 omega
theorem a2R (r : List UInt8) : a0W 0 (48 :: r) = a0W 0 r := by rw [a0W, if_pos (by decide)]; rfl
theorem a8r (a b c d : UInt8) : a0W 0 [a, b, c, d] = if (F9 a.toNat && F9 b.toNat && F9 c.toNat && F9 d.toNat) = true then some (4096 * q8 a.toNat + 256 * q8 b.toNat + 16 * q8 c.toNat + q8 d.toNat) else none := by
 simp only [a0W]
 cases F9 a.toNat <;> cases F9 b.toNat <;> cases F9 c.toNat <;> cases F9 d.toNat <;> simp <;> omega
theorem at4 (l : List UInt8) (h1 : 1 ≤ l.length) (h4 : l.length ≤ 4) : ∃ a b c d, List.replicate (4 - l.length) 48 ++ l = [a, b, c, d] ∧ I1 l = a0W 0 [a, b, c, d] := by
 match l, h1, h4 with
 | [d], _, _ => exact ⟨48, 48, 48, d, rfl, by rw [a2R, a2R, a2R]; rfl⟩
 | [c, d], _, _ => exact ⟨48, 48, c, d, rfl, by rw [a2R, a2R]; rfl⟩
 | [b, c, d], _, _ => exact ⟨48, b, c, d, rfl, by rw [a2R]; rfl⟩
 | [a, b, c, d], _, _ => exact ⟨a, b, c, d, rfl, rfl⟩
theorem aU7 (a b : ByteArray) : sl (a ++ b) = sl a ++ sl b := by simp [sl]
theorem at3 (s : ByteArray) (w : World) :
  Calls Tryz.prog 245 #[.string s] w fun e w' => e = .returned (.tuple #[.int .u16 (((I1 (sl s)).getD 0 : Nat) : Int), .bool (I1 (sl s)).isSome]) ∧ w.grownBy w' none := by
 have hl := m8 s
 by_cases h0 : s.size < 1
 ·have e : I1 (sl s) = none := by rw [I1, if_pos (by omega)]
  rw [e]
  have h0' : (s.size : Int) < 1 := by omega
  go_enter Tryz.func245, Tryz.ntmps245
  go_wp2
  go_ret2
  exact ⟨rfl, World.grownBy.refl _ _⟩
 ·have h0' : ¬ (s.size : Int) < 1 := by omega
  by_cases h4 : 4 < s.size
  ·have e : I1 (sl s) = none := by rw [I1, if_pos (by omega)]
   rw [e]
   have h4' : (4 : Int) < (s.size : Int) := by omega
   go_enter Tryz.func245, Tryz.ntmps245
   go_wp2
   go_ret2
   exact ⟨rfl, World.grownBy.refl _ _⟩
  ·have h4' : ¬ (4 : Int) < (s.size : Int) := by omega
   have h5' : (s.size : Int) ≤ 4 := by omega
   obtain ⟨a, b, c, d, hs4, hg⟩ := at4 (sl s) (by omega) (by omega)
   rw [hl] at hs4
   have HS : Hid (List.replicate (4 - s.size) 48 ++ sl s = [a, b, c, d]) := hs4
   have CU : Hid (∀ (X : ByteArray) (W : World), sl X = [a, b, c, d] → Calls Tryz.prog 247 #[.string X] W fun e w' => ∃ v ys, e = .returned (.tuple #[v, .bool (I1 (sl s)).isSome]) ∧ m9 w' W.heap.size v ys ∧ a1H ys 0 2 = (((I1 (sl s)).getD 0 : Nat) : Int) ∧ ys.length ≤ 2 ∧ W.grownBy w' none) := fun X W hX => by
    have hXs : X.size = 4 := by rw [← m8, hX]; rfl
    obtain ⟨u1, u2⟩ := un4 hX
    refine (aZ3 X W (by omega) (by omega)).mono ?_
    rintro e w' ⟨v, rfl, O, G⟩
    refine ⟨v, unV X, ?_, O, ?_, ?_, G⟩
    ·rw [hg, a8r, u1]
     split <;> rename_i hh
     ·rw [hh]; rfl
     ·rw [Bool.eq_false_iff.2 hh]; rfl
    ·rw [hg, a8r, ← u1]
     split
     ·rename_i hh
      rw [u2 hh, at0 _ _ _ _ (a47 _) (a47 _) (a47 _) (a47 _)]
      rfl
     ·rename_i hh
      rw [unV, if_neg hh]
      rfl
    ·by_cases hh : a0e X = true
     ·rw [u2 hh]; exact Nat.le_refl _
     ·rw [unV, if_neg hh]; exact Nat.zero_le _
   have hlt : ((I1 (sl s)).getD 0 : Nat) < 65536 := by
    cases hq : I1 (sl s) with
    | none => decide
    | some u => exact a8l hq
   clear hg hs4
   generalize (I1 (sl s)).isSome = ok at *
   generalize (I1 (sl s)).getD 0 = u at *
   go_enter Tryz.func245, Tryz.ntmps245
   go_wp2_with fail
   refine (CU.out _ _ ?hx).mono ?_
   case hx =>
    rw [aU7, a1l, ← HS.out]
    congr 1
    have : s.size = 1 ∨ s.size = 2 ∨ s.size = 3 ∨ s.size = 4 := by omega
    rcases this with h | h | h | h <;> simp only [h] <;> rfl
   rintro e w1 ⟨v, ys, rfl, O, hv, hy, G⟩
   obtain ⟨ao, cap, rfl, hc, -⟩ := O.rd
   have CG := a5J ao cap ys 0 2 w1 hc (by omega)
   rw [hv] at CG
   have hw : IntKind.u16.wrap (u : Int) = u := by rw [IntKind.wrap_u16]; omega
   clear CU HS O hc hv
   generalize okB ys.length 0 2 = ok2 at *
   go_wp2_with fail
   refine CG.mono ?_
   rintro e w2 ⟨rfl, rfl⟩
   go_wp2
   go_ret2
   exact ⟨rfl, G⟩
def V9 (g : Nat) : Value := .int .u16 (g : Int)
abbrev a5g (w : World) (base : Nat) (v : Value) (gs : List Nat) : Prop := w.ownsRow base 176 1 v gs.length (gs.map V9)
theorem al5 (gs : List Nat) (g : Nat) : j3 (gs ++ [g]) = j3 gs ++ [UInt8.ofNat (g / 256), UInt8.ofNat g] := by simp [j3]
theorem Z8 (gs : List Nat) : (j3 gs).length = 2 * gs.length := by
 induction gs with
 | nil => rfl
 | cons g r ih => simp only [j3, List.flatMap_cons, List.length_append, List.length_cons, List.length_nil] at *; omega
theorem a4l (a : Option Addr) (ca : Nat) (gs : List Nat) (w : World) (ha : CV w a (gs.map V9)) (hg : ∀ g ∈ gs, g < 65536) (h8 : gs.length ≤ 8) :
  Calls Tryz.prog 242 #[.slice a gs.length ca] w fun e w' => ∃ v, e = .returned v ∧ m9 w' w.heap.size v (j3 gs) ∧ w.grownBy w' none := by
 obtain ⟨i0, hi, hz0, hz1, hz2⟩ := info_parts a1f
 have H : Hid (CV w a (gs.map V9)) := ha
 have HG : Hid (∀ g ∈ gs, g < 65536) := hg
 clear ha hg
 go_enter Tryz.func242, Tryz.ntmps242
 go_wp2
 go_loopw [3, 8] (fun v i wr => ∃ j : Nat, j ≤ gs.length ∧ i = .int .i64 j ∧ m9 wr w.heap.size v (j3 (gs.take j)) ∧ w.grownBy wr none) (fun _ i _ => gs.length - (intOf i).toNat)
 case atStart => exact ⟨0, Nat.zero_le _, rfl, World.ownsRow_nil _ _ _ _, World.grownBy.refl _ _⟩
 case round =>
  obtain ⟨j, hj, rfl, O, G⟩ := hrel
  by_cases hlt : j < gs.length
  ·have hl : (j : Int) < (gs.length : Int) := by omega
   obtain ⟨b, o, rfl, hc⟩ : ∃ b o, a = some ⟨b, o, none⟩ ∧ w.cell? ⟨b, o + j, none⟩ = some (.int .u16 (gs[j] : Int)) := by
    cases a with
    | none => have := H.out.1 rfl; simp at this; subst this; simp at hlt
    | some ad =>
     obtain ⟨b, off, spot⟩ := ad
     have h0 := H.out.2 _ rfl 0 (by simp; omega)
     have hspot : spot = none := by simpa [Addr.add] using World.cell?_spot h0
     subst hspot
     refine ⟨b, off, rfl, ?_⟩
     have := H.out.2 _ rfl j (by simp; omega)
     rw [Addr.add_lit] at this
     simpa [V9] using this
   have hcj := G.cell hc (by simp)
   have hgj := HG.out gs[j] (List.getElem_mem hlt)
   have HN : Hid (j3 (gs.take (j + 1)) = j3 (gs.take j) ++ [UInt8.ofNat (gs[j] / 256), UInt8.ofNat gs[j]]) := by
    show _ = _
    rw [List.take_succ_eq_append_getElem hlt, al5]
   have hlen : (j3 (gs.take j)).length ≤ 16 := by rw [Z8, List.length_take]; omega
   generalize gs[j] = g at *
   generalize j3 (gs.take j) = ys at *
   have hw1 : IntKind.u8.wrap ((g : Int) / 256) = ((UInt8.ofNat (g / 256)).toNat : Int) := by
    rw [IntKind.wrap_u8, UInt8.toNat_ofNat_of_lt' (by show _ < 256; omega)]; omega
   have hw2 : IntKind.u8.wrap (g : Int) = ((UInt8.ofNat g).toNat : Int) := by
    rw [IntKind.wrap_u8, UInt8.toNat_ofNat']; omega
   clear hc
   go_wp2_with (at_builtin; refine a0R rfl (.tmp 12) (.tmp 18) 115 rfl 5 i0 (.int .u8 0) 1 1 Tryz.underlying115 hi hz0 hz1 hz2 rfl (by decide) w.heap.size u3 ys.length (ys.map bv) rfl ?q1 (some ⟨wr.heap.size, 0, none⟩) 2 2 [bv (UInt8.ofNat (g / 256)), bv (UInt8.ofNat g)] rfl rfl (by simp) ?q2 (by simp [Value.oneCell', bv]) ?q3 ?q4 ?q5 ?q6)
   case q1 => exact O.alloc _
   case q2 => exact o4 wr _ _
   case q3 => unfold maxLen; omega
   case q4 => omega
   case q5 => have := G.size; simp; omega
   case q6 =>
    intro y2 w2 O2 K2
    have G2 : w.grownBy w2 none := V0 (d3 G (World.grownBy_alloc _ _ _)) K2 (fun z hz => (O.lt z hz).1)
    have O3 : m9 w2 w.heap.size y2 (j3 (gs.take (j + 1))) := by
     rw [HN.out]
     unfold m9
     rw [List.length_append, List.map_append]
     exact O2
    clear O2 K2 O G
    go_wp2
    go_roundw
    case rel => exact ⟨j + 1, by omega, by go_num, O3, G2⟩
    case measure => simp [intOf]; omega
  ·obtain rfl : j = gs.length := by omega
   rw [List.take_length] at O
   go_wp2
   go_ret
   exact ⟨_, rfl, O, G⟩

open Go.RowKit Go.Shelf

attribute [local go_sem] Oper.semAt_some
def a1u (pre : List (Nat × List UInt8)) : Prop := ∀ p ∈ pre, (I1 p.2).isSome = true ∧ p.1 < 8
def a0f (pre : List (Nat × List UInt8)) : List Nat := pre.map fun p => (I1 p.2).getD 0
theorem a8k (pre : List (Nat × List UInt8)) (x : Nat × List UInt8) : a1u (pre ++ [x]) ↔ a1u pre ∧ (I1 x.2).isSome = true ∧ x.1 < 8 := by
 unfold a1u
 constructor
 ·intro h
  exact ⟨fun p hp => h p (by simp [hp]), h x (by simp)⟩
 ·rintro ⟨h1, h2⟩ p hp
  rcases List.mem_append.1 hp with hp | hp
  ·exact h1 p hp
  ·simp only [List.mem_singleton] at hp
   subst hp
   exact h2
theorem at1 (s : List UInt8) (hs : s ≠ []) (h : a1u (k6 0 (j4 58 s))) : o5 s = some (a0f (k6 0 (j4 58 s))) := by
 have h8 : (j4 58 s).length ≤ 8 := by
  rcases Nat.lt_or_ge 8 (j4 58 s).length with hl | hl
  ·have := (h _ (List.mem_of_getElem? (a6e 0 (j4 58 s) 8 hl))).2
   simp only at this
   omega
  ·exact hl
 have ha : ∀ x ∈ j4 58 s, (I1 x).isSome = true := fun x hx => by
  rw [← a4y 0 (j4 58 s)] at hx
  obtain ⟨p, hp, rfl⟩ := List.mem_map.1 hx
  exact (h p hp).1
 rw [o5, if_neg hs, if_neg (by omega), a7e ha]
 have e : a0f (k6 0 (j4 58 s)) = ((k6 0 (j4 58 s)).map (·.2)).map fun x => (I1 x).getD 0 := by simp [a0f, Function.comp_def]
 rw [e, a4y]
theorem aF6 (s : List UInt8) (hs : s ≠ []) {pre : List (Nat × List UInt8)} (hp : pre <+: k6 0 (j4 58 s)) (h : ¬ a1u pre) : o5 s = none := by
 rw [o5, if_neg hs]
 split
 ·rfl
 ·rename_i h8
  cases ha : T7 I1 (j4 58 s) with
  | none => rfl
  | some ns =>
   exfalso
   refine h fun p hm => ?_
   have hm2 := a6f (hp.subset hm)
   exact ⟨a7f ha _ hm2.2, by omega⟩
theorem at5 (w : World) (s m : ByteArray) : ∀ W0, (((((w.alloc (.cells #[.slice none 0 0] 238)).alloc (.cells #[.bool false] 4)).alloc (.cells #[.slice none 0 0] 238)).alloc (.cells #[.string s] 9)).alloc (.cells #[.string m] 9)) = W0 →
  Boxed W0 w.heap.size 238 (.slice none 0 0) ∧ Boxed W0 (w.heap.size + 1) 4 (.bool false) ∧ Boxed W0 (w.heap.size + 1 + 1) 238 (.slice none 0 0) ∧ Boxed W0 (w.heap.size + 1 + 1 + 1) 9 (.string s) ∧ Boxed W0 (w.heap.size + 1 + 1 + 1 + 1) 9 (.string m) ∧ w.grownBy W0 none ∧ W0.heap.size = w.heap.size + 5 := by
 rintro W0 rfl
 refine ⟨?_, ?_, ?_, ?_, ?_, ?_, ?_⟩
 ·exact D3 (D3 (D3 (D3 (T0 _ _ _ rfl) _) _) _) _
 ·exact D3 (D3 (D3 (T0 _ _ _ (by simp only [World.size_alloc])) _) _) _
 ·exact D3 (D3 (T0 _ _ _ (by simp only [World.size_alloc])) _) _
 ·exact D3 (T0 _ _ _ (by simp only [World.size_alloc])) _
 ·exact T0 _ _ _ (by simp only [World.size_alloc])
 ·exact d3 (d3 (d3 (d3 (World.grownBy_alloc _ _ _) (World.grownBy_alloc _ _ _)) (World.grownBy_alloc _ _ _)) (World.grownBy_alloc _ _ _)) (World.grownBy_alloc _ _ _)
 ·simp only [World.size_alloc]
def IG (w : World) (R K O M : Nat) (pre : List (Nat × List UInt8)) (W : World) : Prop :=
 ((∃ v, Boxed W O 238 v ∧ W.ownsRow w.heap.size 176 1 v (a0f pre).length ((a0f pre).map V9) ∧ True) ∧ (a1u pre ∧ Boxed W R 238 (.slice none 0 0) ∧ Boxed W K 4 (.bool false) ∧ Boxed W M 9 (.string ⟨#[58]⟩))) ∧ Below w.heap.size w W
def XG (w : World) (R K : Nat) (c : Code) (pre : List (Nat × List UInt8)) (W : World) : Prop :=
 (c = .ret ∧ ¬ a1u pre ∧ Boxed W R 238 (.slice none 0 0) ∧ Boxed W K 4 (.bool false)) ∧ Below w.heap.size w W
theorem ae3 (w : World) (R K O M B : Nat) (hB : w.heap.size ≤ B) : OwnFrom B (IG w R K O M) :=
 OwnFrom.and (OwnFrom.and (Own.from (holdsRow_own w.heap.size O 238 176 1 (fun pre => (a0f pre).length) (fun pre => (a0f pre).map V9) (fun _ _ => True)) _) (Own.from (fun _ _ _ _ hs hg hr => ⟨hs.1, J5 hs.2.1 hg hr, J5 hs.2.2.1 hg hr, J5 hs.2.2.2 hg hr⟩) _)) (ownFrom_below (Nat.le_refl _) hB)
theorem af3 (w : World) (R K B : Nat) (hB : w.heap.size ≤ B) (c : Code) : OwnFrom B (XG w R K c) :=
 OwnFrom.and (Own.from (fun _ _ _ _ hs hg hr => ⟨hs.1, hs.2.1, J5 hs.2.2.1 hg hr, J5 hs.2.2.2 hg hr⟩) _) (ownFrom_below (Nat.le_refl _) hB)
theorem a6u {P : Program} {fn : Func} {p q : Tmp} {ty te : TypeId} (h : fn.results = #[.cell p ty, .cell q te]) (tmps : Array Value) (w : World) (g e : Nat) (u v : Value) (hp : tmps.getD p undef = .pointer (some ⟨g, 0, none⟩)) (hq : tmps.getD q undef = .pointer (some ⟨e, 0, none⟩)) (A : Boxed w g ty u) (B : Boxed w e te v)
  (hu : (isAgg ty).run P w = .ok false w) (hv : (isAgg te).run P w = .ok false w) : (results fn tmps).run P w = .ok (.tuple #[u, v]) w := by
 have hp' : tmps[p]?.getD undef = .pointer (some ⟨g, 0, none⟩) := by simpa using hp
 have hq' : tmps[q]?.getD undef = .pointer (some ⟨e, 0, none⟩) := by simpa using hq
 have h1 : (loadVar ty ⟨g, 0, none⟩).run P w = .ok u w := by
  have hc := A.cell
  simp [loadVar, Sem.run_bind, hu, go_sem, hc]
 have h2 : (loadVar te ⟨e, 0, none⟩).run P w = .ok v w := by
  have hc := B.cell
  simp [loadVar, Sem.run_bind, hv, go_sem, hc]
 simp [results, h, hp', hq', asAddr, h1, h2, Sem.run_bind]
theorem av0 : (Tryz.prog.info? 176).map (fun i => (i.zero, i.size, i.bytes)) = some (some (.int .u16 0), 1, 2) := by kernel_rfl
theorem a8m (s : ByteArray) (w : World) (hs : s.size ≤ 1048576) (T : j2 w) :
  Calls Tryz.prog 241 #[.string s] w fun e w' => ∃ v, e = .returned (.tuple #[v, .bool (o5 (sl s)).isSome]) ∧ a5g w' w.heap.size v ((o5 (sl s)).getD []) ∧ w.grownBy w' none := by
 obtain ⟨i0, hi, hz0, hz1, hz2⟩ := info_parts av0
 have HT : Hid (j2 w) := T
 have h3 := T.size
 clear T
 have HS := m8 s
 by_cases h0 : s.size = 0
 ·have hn : sl s = [] := List.eq_nil_of_length_eq_zero (by omega)
  have e : o5 (sl s) = some [] := by rw [o5, if_pos hn]
  rw [e]
  obtain rfl : s = ⟨#[]⟩ := by
   have := congrArg List.toArray hn
   unfold sl at this
   apply ByteArray.ext
   simpa using this
  clear hn e HS h0
  go_enter Tryz.func241, Tryz.ntmps241
  go_wp2
  refine bodyPost_ret (a6u rfl _ _ w.heap.size (w.heap.size + 1) (.slice none 0 0) (.bool true) rfl rfl (D3 (T0 _ _ _ rfl) _) (T0 _ _ _ (by simp only [World.size_alloc])) (run_isAgg_plain Tryz.underlying238 rfl _) (run_isAgg_plain Tryz.underlying4 rfl _)) rfl ?_
  exact ⟨_, rfl, World.ownsRow_nil _ _ _ _, d3 (World.grownBy_alloc _ _ _) (World.grownBy_alloc _ _ _)⟩
 ·have hsb : (s.toList == []) = false := by
   rw [ByteArray.toList_eq]
   exact beq_eq_false_iff_ne.2 (fun e => by unfold sl at HS; rw [e] at HS; simp at HS; omega)
  have HNE : Hid (sl s ≠ []) := fun e => by rw [e] at HS; simp at HS; omega
  refine (callsIn_wide (n := 3)).1 ?_
  refine callsIn_of_wp_marks Tryz.func241 rfl trivial ?_ rfl
  simp only [Tryz.ntmps241, List.size_toArray, List.length_cons, List.length_nil, Nat.reduceAdd, Nat.reduceSub, Array.replicate_succ, Array.replicate_zero, List.push_toArray, List.append_toArray, List.nil_append, List.cons_append]
  gi_wp2_with (refine ⟨trivial, ?_⟩; gi_at_call 238; refine (callsIn_wide.2 (a7h _ _ _)).mono ?_; rintro e w' ⟨rfl, rfl⟩)
  clear hsb h0
  obtain ⟨W0, hW0⟩ : ∃ W0, (((((w.alloc (.cells #[.slice none 0 0] 238)).alloc (.cells #[.bool false] 4)).alloc (.cells #[.slice none 0 0] 238)).alloc (.cells #[.string s] 9)).alloc (.cells #[.string ⟨#[58]⟩] 9)) = W0 := ⟨_, rfl⟩
  obtain ⟨fR, fK, fO, fS, fM, G0, hsz⟩ := at5 w s ⟨#[58]⟩ W0 hW0
  rw [hW0]
  clear hW0
  obtain ⟨M, hM⟩ : ∃ k, w.heap.size + 1 + 1 + 1 + 1 = k := ⟨_, rfl⟩
  rw [hM] at fM ⊢
  obtain ⟨Bs, hBs⟩ : ∃ k, w.heap.size + 1 + 1 + 1 = k := ⟨_, rfl⟩
  rw [hBs] at fS ⊢
  obtain ⟨O, hO⟩ : ∃ k, w.heap.size + 1 + 1 = k := ⟨_, rfl⟩
  rw [hO] at fO ⊢
  obtain ⟨K, hK⟩ : ∃ k, w.heap.size + 1 = k := ⟨_, rfl⟩
  rw [hK] at fK ⊢
  obtain ⟨R, hR⟩ : ∃ k, w.heap.size = k := ⟨_, rfl⟩
  rw [show (Value.pointer (some ⟨w.heap.size, 0, none⟩)) = .pointer (some ⟨R, 0, none⟩) by rw [hR]]
  rw [hR] at fR
  have ne : Hid (M ≠ O ∧ M ≠ R ∧ M ≠ K ∧ O ≠ R ∧ O ≠ K ∧ R ≠ K ∧ w.heap.size ≤ O ∧ w.heap.size ≤ R ∧ w.heap.size ≤ K) := by
   refine ⟨?_, ?_, ?_, ?_, ?_, ?_, ?_, ?_, ?_⟩ <;> omega
  clear hM hBs hO hK hR
  have hle : w.heap.size ≤ W0.heap.size := G0.size
  refine wpIn_rangeFunc_ownF rfl (by omega) (gf := 243) (lb := #[.pointer (some ⟨Bs, 0, none⟩), .pointer (some ⟨M, 0, none⟩)]) rfl trivial (enters_of Tryz.func243 (by kernel_rfl) rfl)
   (a9s _ (by omega) Bs M w.heap.size (fun k => k = M) 58 (sl s) (by omega) (.inl rfl) h3 W0 (HT.out.grown G0) (by rw [← a0D]; exact fS.cell) fM.cell)
   (fun h k => h.trans k) (Kp.book hle) (Below.refl _ _) (fun _ => rfl)
   (IG w R K O M) (XG w R K) (ae3 w R K O M _ hle) (fun c => af3 w R K _ hle c)
   ⟨⟨⟨_, fO, World.ownsRow_nil _ _ _ _, trivial⟩, (fun p hp => absurd hp (by simp)), fR, fK, fM⟩, a1c G0⟩
   (fun x => { tmps := #[.string s, undef, .pointer (some ⟨R, 0, none⟩), .pointer (some ⟨K, 0, none⟩), .pointer (some ⟨O, 0, none⟩), .int .i64 (x.1 : Int), str x.2, undef, undef, .string s, .bool false, .string s, .func (.func 243) #[] #[.pointer (some ⟨Bs, 0, none⟩), .pointer (some ⟨M, 0, none⟩)], .int .i64 (x.1 : Int), str x.2, undef, undef, undef, undef, undef, undef, undef, undef, undef, undef, undef, undef, undef, undef, undef, undef], defers := [] }) ?assign ?body ?done ?stop
  case assign =>
   intro l x W K hK
   gi_wp2
   exact hK
  case body =>
   rintro l pre ⟨i, t⟩ W ⟨⟨⟨v, hO, hrow, -⟩, hg, hRr, hKk, hMm⟩, hB⟩ hlen
   have hG := at3 ⟨t.toArray⟩ W
   rw [show I1 (sl ⟨t.toArray⟩) = I1 t from rfl] at hG
   obtain ⟨n1, n2, n3, n4, n5, n6, l1, l2, l3⟩ := ne.out
   have n6' : K ≠ R := Ne.symm n6
   have hpl : (a0f pre).length ≤ 1048577 := by
    have := a6E 58 [] (sl s)
    unfold j4 at hlen
    unfold a0f
    rw [List.length_map]
    omega
   have hB' := hB.size
   by_cases hbad : I1 t = none ∨ 8 ≤ i
   ·have HB : Hid (¬ a1u (pre ++ [(i, t)])) := fun h => by
     have h2 := ((a8k _ _).1 h).2
     rcases hbad with hb | hb
     ·rw [show I1 (i, t).2 = none from hb] at h2
      exact absurd h2.1 (by simp)
     ·have := h2.2
      simp only at this
      omega
    have fin : ∀ w1 : World, W.grownBy w1 none → ownPostK (Kp w.heap.size fun k => k = M) (IG w R K O M) (XG w R K) (pre ++ [(i, t)]) W .ret { tmps := #[], defers := [] } ((w1.setCell ⟨R, 0, none⟩ (.slice none 0 0)).setCell ⟨K, 0, none⟩ (.bool false)) := fun w1 G1 => by
     have bR1 := J5 hRr G1 (fun r e => by cases e)
     have bK1 := J5 hKk G1 (fun r e => by cases e)
     have hkk : KeepsOthers W w1 := KeepsOthers.of_grownBy G1 (fun _ _ e => by cases e)
     have hB1 : Below w.heap.size W w1 := (Below.refl _ _).grown G1 (by omega) (by simp)
     exact ⟨(hkk.trans (KeepsOthers.setCell _ _ _)).trans (KeepsOthers.setCell _ _ _), ⟨rfl, HB.out, T8 _ (bR1.set _) n6, Boxed.set _ (T8 _ bK1 n6')⟩, ((hB.trans hB1).setCell (p := ⟨R, 0, none⟩) l2 _).setCell (p := ⟨K, 0, none⟩) l3 _⟩
    have HF : Hid (∀ w1 : World, W.grownBy w1 none → ownPostK (Kp w.heap.size fun k => k = M) (IG w R K O M) (XG w R K) (pre ++ [(i, t)]) W .ret { tmps := #[], defers := [] } ((w1.setCell ⟨R, 0, none⟩ (.slice none 0 0)).setCell ⟨K, 0, none⟩ (.bool false))) := fin
    clear fin
    cases hn : I1 t with
    | none =>
     rw [hn] at hG
     have hG' : Calls Tryz.prog 245 #[str t] W fun e w' => e = .returned (.tuple #[.int .u16 0, .bool false]) ∧ W.grownBy w' none := hG
     clear hG
     gi_wp2_with (refine ⟨trivial, ?_⟩; gi_at_call 245; refine (CallsIn.inRound l (callsIn_wide.2 hG')).mono ?_; rintro e w1 ⟨rfl, G1⟩; have hR1 := J5 hRr G1 (fun r e => by cases e); have hc1 := hR1.cell; have hf1 := hR1.frozen; have hK1 := J5 hKk G1 (fun r e => by cases e); have hc2 := hK1.cell; have hf2 := hK1.frozen)
     exact HF.out w1 G1
    | some u =>
     rw [hn] at hG
     have hi8 : (8 : Int) ≤ (i : Int) := by
      rcases hbad with hb | hb
      ·rw [hn] at hb; cases hb
      ·omega
     have hG' : Calls Tryz.prog 245 #[str t] W fun e w' => e = .returned (.tuple #[.int .u16 (u : Int), .bool true]) ∧ W.grownBy w' none := hG
     clear hG hbad
     gi_wp2_with (refine ⟨trivial, ?_⟩; gi_at_call 245; refine (CallsIn.inRound l (callsIn_wide.2 hG')).mono ?_; rintro e w1 ⟨rfl, G1⟩; have hR1 := J5 hRr G1 (fun r e => by cases e); have hc1 := hR1.cell; have hf1 := hR1.frozen; have hK1 := J5 hKk G1 (fun r e => by cases e); have hc2 := hK1.cell; have hf2 := hK1.frozen)
     exact HF.out w1 G1
   ·obtain ⟨u, hu⟩ : ∃ u, I1 t = some u := by
     cases h : I1 t with
     | none => exact absurd (.inl h) hbad
     | some u => exact ⟨u, rfl⟩
    have hi8 : ¬ (8 : Int) ≤ (i : Int) := fun h => hbad (.inr (by omega))
    rw [hu] at hG
    have hG' : Calls Tryz.prog 245 #[str t] W fun e w' => e = .returned (.tuple #[.int .u16 (u : Int), .bool true]) ∧ W.grownBy w' none := hG
    have HV : Hid (a0f (pre ++ [(i, t)]) = a0f pre ++ [u]) := by
     show _ = _
     simp [a0f, hu]
    have HGd : Hid (a1u (pre ++ [(i, t)])) := (a8k _ _).2 ⟨hg, by rw [show I1 (i, t).2 = some u from hu]; rfl, by have h : ¬ 8 ≤ i := fun h => hbad (.inr h); simp only; omega⟩
    obtain ⟨ao, cap, rfl, -⟩ := S5 hrow
    clear hG hbad hg
    generalize a0f pre = us at *
    gi_wp2_with (first
     | (refine ⟨trivial, ?_⟩; gi_at_call 245; refine (CallsIn.inRound l (callsIn_wide.2 hG')).mono ?_; rintro e w1 ⟨rfl, G1⟩; have hO1 := J5 hO G1 (fun r e => by cases e); have hc1 := hO1.cell; have hrow1 := x9 hrow G1; have hl1 := G1.size)
     | (gi_at_builtin; refine wpListIn_append_own _ rfl _ _ 238 rfl w.heap.size 176 i0 (.int .u16 0) 1 2 Tryz.underlying238 hi hz0 hz1 hz2 rfl (by decide) _ _ _ rfl (hrow1.alloc _) ⟨w1.heap.size, 0, none⟩ 1 1 [V9 u] rfl rfl (cell_one_new _ _ _) (by simp [Value.oneCell', V9]) (by unfold maxLen; omega) (by omega) (by simp; omega) ?_; intro v' w2 hown' hgrow _; obtain ⟨g', cap', rfl⟩ := ownsRow_succ hown'; obtain ⟨hv1, hv2, hr2, hk2, hb2⟩ := hO1.appended (by decide) hrow1 (by omega) l1 hown' hgrow; have hc2 := hv1.cell; have hf2 := hv1.frozen))
    have bM1 := J5 hMm G1 (fun r e => by cases e)
    have bR1 := J5 hRr G1 (fun r e => by cases e)
    have bK1 := J5 hKk G1 (fun r e => by cases e)
    have far : ∀ {B : Nat} {t : TypeId} {x : Value}, Boxed w1 B t x → t ≠ 176 → B ≠ O → Boxed (w2.setCell ⟨O, 0, none⟩ (.slice (some ⟨g', 0, none⟩) (us.length + 1) cap')) B t x := fun {B t x} h ht hb => T8 _ (((h.alloc _).kept hgrow (h.not_row ht hrow1))) hb
    have bM2 := far bM1 (by decide) n1
    have bR2 := far bR1 (by decide) (Ne.symm n4)
    have bK2 := far bK1 (by decide) (Ne.symm n5)
    have hkk : KeepsOthers W w1 := KeepsOthers.of_grownBy G1 (fun _ _ e => by cases e)
    have hB1 : Below w.heap.size W w1 := (Below.refl _ _).grown G1 (by omega) (by simp)
    refine ⟨hkk.trans hk2, ⟨hB1.trans hb2, ?_⟩, ⟨⟨_, hv2, ?_, trivial⟩, HGd.out, bR2, bK2, bM2⟩, hB.trans (hB1.trans hb2)⟩
    ·rintro k o rfl ho -
     unfold Boxed at hMm bM2
     rw [hMm] at ho
     rw [bM2]
     exact ho
    ·rw [HV.out, List.length_append, List.map_append]
     exact hr2
  case done =>
   rintro D xs W hD rfl ⟨⟨⟨v, hO, hrow, -⟩, hg, hRr, hKk, -⟩, hB⟩ hK
   have HN : Hid (o5 (sl s) = some (a0f (k6 0 (j4 58 (sl s))))) := at1 (sl s) HNE.out hg
   obtain ⟨n1, n2, n3, n4, n5, n6, l1, l2, l3⟩ := ne.out
   have n6' : K ≠ R := Ne.symm n6
   obtain ⟨ao, cap, rfl, -⟩ := S5 hrow
   have hcO := hO.cell
   have hcR := hRr.cell
   have hfR := hRr.frozen
   have hcK := hKk.cell
   have hfK := hKk.frozen
   clear hg fR fK fO fS fM
   generalize a0f (k6 0 (j4 58 (sl s))) = us at *
   gi_wp2
   obtain ⟨X, hX⟩ : ∃ X, ((W.setCell ⟨R, 0, none⟩ (.slice ao us.length cap)).setCell ⟨K, 0, none⟩ (.bool true)) = X := ⟨_, rfl⟩
   rw [hX]
   have k1 : KeepsOthers W X := by rw [← hX]; exact (KeepsOthers.setCell _ _ _).trans (KeepsOthers.setCell _ _ _)
   have k2 : Boxed X R 238 (.slice ao us.length cap) := by rw [← hX]; exact T8 _ (hRr.set _) n6
   have k3 : Boxed X K 4 (.bool true) := by rw [← hX]; exact Boxed.set _ (T8 _ hKk n6')
   have k4 : Below w.heap.size w X := by rw [← hX]; exact (hB.setCell (p := ⟨R, 0, none⟩) l2 _).setCell (p := ⟨K, 0, none⟩) l3 _
   have k5 : X.ownsRow w.heap.size 176 1 (.slice ao us.length cap) us.length (us.map V9) := by
    rw [← hX]
    have r1 := hrow.kept (grownBy_setCell' W R (.slice ao us.length cap)) (.inr (hRr.not_row (by decide) hrow).symm)
    have bK : Boxed (W.setCell ⟨R, 0, none⟩ (.slice ao us.length cap)) K 4 (.bool false) := T8 _ hKk n6'
    exact r1.kept (grownBy_setCell' _ K (.bool true)) (.inr (bK.not_row (by decide) r1).symm)
   clear hX
   have hK' := k1.same D _ hK rfl
   refine ⟨by simp, .inl ⟨_, _, rfl, run_takeDeferred hK', ?_⟩⟩
   have hr : ∀ r, some D = some r → ∃ o : Obj, X.heap[r]? = some o ∧ o.isCells = false := fun r e => by cases e; exact ⟨_, hK', rfl⟩
   refine ⟨_, a6u rfl _ _ R K (.slice ao us.length cap) (.bool true) rfl rfl (J5 k2 (grownBy_putObj' _ D (.deferred none)) hr) (J5 k3 (grownBy_putObj' _ D (.deferred none)) hr) (run_isAgg_plain Tryz.underlying238 rfl _) (run_isAgg_plain Tryz.underlying4 rfl _), ?_⟩
   refine ⟨.slice ao us.length cap, ?_, ?_, ?_⟩
   ·rw [HN.out]; rfl
   ·rw [HN.out]; exact ownsRow_putObj k5 _ hK' rfl
   ·exact a0t (k4.trans (belowK_b (w := w) (Nat.le_refl _) _ D _ _ (by omega) hK' rfl rfl))
  case stop =>
   rintro D c pre W hD hpre ⟨⟨rfl, hbad, hRr, hKk⟩, hB⟩ hK
   have HN : Hid (o5 (sl s) = none) := aF6 (sl s) HNE.out hpre hbad
   gi_wp2
   refine ⟨by simp, .inl ⟨_, _, rfl, run_takeDeferred hK, ?_⟩⟩
   have hr : ∀ r, some D = some r → ∃ o : Obj, W.heap[r]? = some o ∧ o.isCells = false := fun r e => by cases e; exact ⟨_, hK, rfl⟩
   refine ⟨_, a6u rfl _ _ R K (.slice none 0 0) (.bool false) rfl rfl (J5 hRr (grownBy_putObj' _ D (.deferred none)) hr) (J5 hKk (grownBy_putObj' _ D (.deferred none)) hr) (run_isAgg_plain Tryz.underlying238 rfl _) (run_isAgg_plain Tryz.underlying4 rfl _), ?_⟩
   refine ⟨.slice none 0 0, ?_, ?_, ?_⟩
   ·rw [HN.out]; rfl
   ·rw [HN.out]; exact World.ownsRow_nil _ _ _ _
   ·exact a0t (hB.trans (belowK_b (w := w) (Nat.le_refl _) W D _ _ (by omega) hK rfl rfl))
def a5C (gp : Option Nat) (nx ny : Nat) : Bool := match gp with
 | none => nx == 8
 | some _ => decide (nx + ny ≤ 7)
def at8 (s H T : List UInt8) (gp : Option Nat) : Prop := match gp with
 | none => H = s ∧ T = []
 | some k => H = s.take k ∧ T = s.drop (k + 2)
theorem a9o (s H T : List UInt8) (h : at8 s H T (a09 s)) :
  J7 s = (o5 H).bind fun x => (o5 T).bind fun y => if a5C (a09 s) x.length y.length = true then some (j3 (x ++ List.replicate (8 - x.length - y.length) 0 ++ y)) else none := by
 unfold J7
 cases hg : a09 s with
 | none =>
  rw [hg] at h
  obtain ⟨rfl, rfl⟩ := h
  simp only
  have e : o5 [] = some [] := rfl
  cases o5 H with
  | none => rfl
  | some x =>
   rw [e]
   simp only [Option.bind_some, a5C, List.length_nil, List.append_nil, Nat.sub_zero, beq_iff_eq]
   by_cases h8 : x.length = 8
   ·rw [if_pos h8, if_pos h8, h8]; simp
   ·rw [if_neg h8, if_neg h8]
 | some k =>
  rw [hg] at h
  obtain ⟨rfl, rfl⟩ := h
  simp only [a5C, decide_eq_true_eq]
theorem af7 {α β : Type} {f : α → Option β} {xs : List α} {vs : List β} (h : T7 f xs = some vs) : ∀ v ∈ vs, ∃ x ∈ xs, f x = some v := by
 induction xs generalizing vs with
 | nil => simp [T7] at h; subst h; intro v hv; cases hv
 | cons x r ih =>
  simp only [T7] at h
  cases hx : f x with
  | none => rw [hx] at h; cases h
  | some u =>
   rw [hx] at h
   cases hr : T7 f r with
   | none => rw [hr] at h; cases h
   | some us =>
    rw [hr] at h
    simp only [Option.bind_some, Option.map_some, Option.some.injEq] at h
    subst h
    intro v hv
    rcases List.mem_cons.1 hv with rfl | hv
    ·exact ⟨x, by simp, hx⟩
    ·obtain ⟨y, hy, e⟩ := ih hr v hv
     exact ⟨y, by simp [hy], e⟩
theorem a8n {s : List UInt8} {gs : List Nat} (h : o5 s = some gs) : ∀ g ∈ gs, g < 65536 := by
 unfold o5 at h
 split at h
 ·simp at h; subst h; intro g hg; cases hg
 ·split at h
  ·cases h
  ·intro g hg
   obtain ⟨x, -, e⟩ := af7 h g hg
   exact a8l e
theorem a5L {s : List UInt8} {gs : List Nat} (h : o5 s = some gs) : gs.length ≤ 8 := by
 unfold o5 at h
 split at h
 ·simp at h; subst h; simp
 ·split at h
  ·cases h
  ·rw [a7g h]; omega
theorem a7I (gs : List Nat) : (j3 gs).length = 2 * gs.length := by
 induction gs with
 | nil => rfl
 | cons g r ih => simp only [j3, List.flatMap_cons, List.length_append, List.length_cons, List.length_nil] at *; omega
end Go.Proofs.YtklipelnjgpnjaaGreatDoor
