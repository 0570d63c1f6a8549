/-
  The landed parser: sides, protocols' numbers, ports. The program's own Get.
-/
import Derived.Test.YtbdmpjnlgdahmaaGreatDoorLotP28
import Derived.Test.YtbdmpjnlgdahmaaGreatDoorLotP29
import Derived.Test.YtbdmpjnlgdahmaaGreatDoorLotP2
namespace Go.Proofs.YtbdmpjnlgdahmaaGreatDoor
open Go.RowKit
set_option maxRecDepth 100000

section
variable {c : PC} {w : World} {i nest bud : Nat} {vt vp : Value} {ts : List Tk} {ns : List (Nd × Nat)}

theorem ask_in {x : List UInt8} (h : wordsL.contains x = true) : Asked x := ask_w (by simpa using h)

set_option maxHeartbeats 1000000 in
theorem side_any (h : PS c w i vt vp ts nest bud ns) :
    Calls Tryz.prog 164 #[.pointer (some ⟨c.g, 0, none⟩)] w fun e w' => e = .returned (.int .i64 (sideN ts : Int)) ∧ Ret c w vt vp (sideR ts) nest bud ns w' := by
  have C1 := skip_any h wSrc (ask_in (by decide))
  have HC2 : Hid (∀ W, w.grownBy W none → Calls Tryz.prog 163 #[.pointer (some ⟨c.g, 0, none⟩), str wDst] W fun e w' => e = .returned (.bool (isB ts wDst)) ∧ SkipP c W vt vp ts nest bud ns (isB ts wDst) w') := fun W G => skip_any (h.keep G) wDst (ask_in (by decide))
  have HP : Hid (PS c w i vt vp ts nest bud ns) := h
  unfold sideR sideN
  cases h1 : isB ts wSrc with
  | true =>
    rw [h1] at C1
    clear h HC2
    rw [if_pos rfl]
    go_enter Tryz.func164, Tryz.ntmps164
    go_wp2_with fail
    refine C1.mono ?_
    rintro e w1 ⟨rfl, R⟩
    clear C1
    go_wp2
    go_ret
    exact ⟨rfl, Ret.less R (Nat.le_succ _)⟩
  | false =>
    rw [h1] at C1
    rw [if_neg (by simp)]
    cases h2 : isB ts wDst with
    | true =>
      rw [h2] at HC2
      rw [if_pos rfl]
      clear h
      go_enter Tryz.func164, Tryz.ntmps164
      go_wp2_with fail
      refine C1.mono ?_
      rintro e w1 ⟨rfl, hG⟩
      have G1 : w.grownBy w1 none := hG
      clear C1 hG
      go_wp2_with fail
      refine (HC2.out w1 G1).mono ?_
      rintro e w2 ⟨rfl, R⟩
      clear HC2
      go_wp2
      go_ret
      exact ⟨rfl, Ret.of (GB.non G1) (fun _ _ h => h) (Ret.less R (Nat.le_succ _))⟩
    | false =>
      rw [h2] at HC2
      rw [if_neg (by simp)]
      clear h
      go_enter Tryz.func164, Tryz.ntmps164
      go_wp2_with fail
      refine C1.mono ?_
      rintro e w1 ⟨rfl, hG⟩
      have G1 : w.grownBy w1 none := hG
      clear C1 hG
      go_wp2_with fail
      refine (HC2.out w1 G1).mono ?_
      rintro e w2 ⟨rfl, hG⟩
      have G2 : w1.grownBy w2 none := hG
      clear HC2 hG
      go_wp2
      go_ret
      have G := grown_trans G1 G2
      exact ⟨rfl, Ret.same (HP.out.keep G) (GB.non G)⟩

set_option maxHeartbeats 1000000 in
theorem proto_any (h : PS c w i vt vp ts nest bud ns) :
    Calls Tryz.prog 160 #[.pointer (some ⟨c.g, 0, none⟩)] w (TellP c w vt vp nest (bud + 1) ns (fun n : Nat => .int .u32 (n : Int)) (thenE (mustV wProto ts) numT)) := by
  have C1 := must_any h wProto (ask_in (by decide))
  cases hr : mustV wProto ts with
  | error er =>
    rw [hr] at C1
    rw [thenE_er]
    clear h hr
    go_enter Tryz.func160, Tryz.ntmps160
    go_wp2_with fail
    refine C1.mono ?_
    rintro e w1 ⟨rfl, G⟩
    go_wp2
    exact ⟨rfl, rfl, G⟩
  | ok r =>
    rw [hr] at C1
    rw [thenE_ok]
    obtain ⟨nr, hnr⟩ : ∃ x, numT r = x := ⟨_, rfl⟩
    have HN : Hid (numT r = nr) := hnr
    rw [hnr]
    clear h hr hnr
    go_enter Tryz.func160, Tryz.ntmps160
    go_wp2_with fail
    refine C1.mono ?_
    rintro e w1 ⟨rfl, i1, vt1, vp1, H1, G1, F1⟩
    clear C1
    have CN := rnumber_any (H1.less (Nat.le_succ bud))
    rw [HN.out] at CN
    clear H1
    go_wp2_with fail
    refine CN.mono ?_
    clear CN
    cases nr with
    | error er =>
      rintro e w2 ⟨rfl, G2⟩
      go_wp2
      exact ⟨rfl, rfl, G1.trans G2 F1⟩
    | ok v =>
      obtain ⟨m, r2⟩ := v
      rintro e w2 ⟨rfl, R2⟩
      go_wp2
      go_ret
      exact ⟨rfl, Ret.of G1 F1 R2⟩

theorem portN_cells (of side n m : Nat) : (portN of side n m).cells.toArray = #[.int .i64 16, .int .i64 0, .int .u32 (n : Int), .int .u32 (m : Int), .int .i64 0, .int .i64 (of : Int), .int .i64 (side : Int), .int .u8 0, .int .u8 0, .int .u8 0, .int .u8 0, .int .u8 0, .int .u8 0, .int .u8 0, .int .u8 0, .int .u8 0, .int .u8 0, .int .u8 0, .int .u8 0, .int .u8 0, .int .u8 0, .int .u8 0, .int .u8 0, .int .i64 0] := by kernel_rfl
theorem nd0_cells : nd0.cells.toArray = #[.int .i64 0, .int .i64 0, .int .u32 0, .int .u32 0, .int .i64 0, .int .i64 0, .int .i64 0, .int .u8 0, .int .u8 0, .int .u8 0, .int .u8 0, .int .u8 0, .int .u8 0, .int .u8 0, .int .u8 0, .int .u8 0, .int .u8 0, .int .u8 0, .int .u8 0, .int .u8 0, .int .u8 0, .int .u8 0, .int .u8 0, .int .i64 0] := by kernel_rfl
theorem sizeNd (x : Nd) : (Tryz.prog.info? 46).map (·.size) = some x.cells.toArray.size := size46
theorem all_nd (x : Nd) : x.cells.toArray.all (·.oneCell') = true := all_oneCell_toArray x.cells_one

theorem portN0_cells (of side : Nat) : (portN of side 0 0).cells.toArray = #[.int .i64 16, .int .i64 0, .int .u32 0, .int .u32 0, .int .i64 0, .int .i64 (of : Int), .int .i64 (side : Int), .int .u8 0, .int .u8 0, .int .u8 0, .int .u8 0, .int .u8 0, .int .u8 0, .int .u8 0, .int .u8 0, .int .u8 0, .int .u8 0, .int .u8 0, .int .u8 0, .int .u8 0, .int .u8 0, .int .u8 0, .int .u8 0, .int .i64 0] := by kernel_rfl
/-- A reading under way in a function that has a result's cell and a variable of its own, both nodes. -/
structure PV (c : PC) (w : World) (vt vp : Value) (W : World) (i' : Nat) (vt' vp' : Value) (ts' : List Tk) (nest bud' : Nat) (ns : List (Nd × Nat)) (R V : Nat) (y x : Nd) : Prop where
  ps : PS c W i' vt' vp' ts' nest bud' ns
  gb : GB w W (foot c.g vt vp)
  sh : ∀ x, x < w.heap.size → foot c.g vt' vp' x → foot c.g vt vp x
  fV : ¬ foot c.g vt' vp' V
  fR : ¬ foot c.g vt' vp' R
  var : VAt W V 46 x.cells.toArray
  res : VAt W R 46 y.cells.toArray
  lV : w.heap.size ≤ V
  lR : w.heap.size ≤ R
  ne : R ≠ V
theorem PV.keep {W W2 : World} {i1 bud1 R V : Nat} {vt1 vp1 : Value} {ts1 : List Tk} {y x : Nd} (h : PV c w vt vp W i1 vt1 vp1 ts1 nest bud1 ns R V y x) (G : W.grownBy W2 none) : PV c w vt vp W2 i1 vt1 vp1 ts1 nest bud1 ns R V y x :=
  { h with ps := h.ps.keep G, gb := h.gb.trans (GB.non (S := foot c.g vt vp) G) (fun _ _ h => h), var := h.var.kept G, res := h.res.kept G }
theorem PV.less {W : World} {i1 bud1 b R V : Nat} {vt1 vp1 : Value} {ts1 : List Tk} {y x : Nd} (h : PV c w vt vp W i1 vt1 vp1 ts1 nest bud1 ns R V y x) (hb : b ≤ bud1) : PV c w vt vp W i1 vt1 vp1 ts1 nest b ns R V y x := { h with ps := h.ps.less hb }
theorem PV.step {W W2 : World} {i1 bud1 bud2 R V : Nat} {vt1 vp1 : Value} {ts1 ts2 : List Tk} {y x : Nd} (h : PV c w vt vp W i1 vt1 vp1 ts1 nest bud1 ns R V y x) (r : Ret c W vt1 vp1 ts2 nest bud2 ns W2) : ∃ i2 vt2 vp2, PV c w vt vp W2 i2 vt2 vp2 ts2 nest bud2 ns R V y x := by
  obtain ⟨i2, vt2, vp2, p, g, f⟩ := r
  exact ⟨i2, vt2, vp2, p, h.gb.trans g h.sh, fun x hx k => h.sh x hx (f x (Nat.lt_of_lt_of_le hx h.gb.size) k), fun e => h.fV (f V h.var.lt e), fun e => h.fR (f R h.res.lt e), g.vat h.var h.fV, g.vat h.res h.fR, h.lV, h.lR, h.ne⟩
theorem PV.err {W W2 : World} {i1 bud1 R V : Nat} {vt1 vp1 : Value} {ts1 : List Tk} {y x : Nd} (h : PV c w vt vp W i1 vt1 vp1 ts1 nest bud1 ns R V y x) (g : GB W W2 (foot c.g vt1 vp1)) : GB w W2 (foot c.g vt vp) := h.gb.trans g h.sh
theorem PV.away {i0 nest0 bud0 : Nat} {ts0 : List Tk} {ns0 : List (Nd × Nat)} {S : Nat → Prop} {W W2 : World} {i1 bud1 R V : Nat} {vt1 vp1 : Value} {ts1 : List Tk} {y x y2 x2 : Nd} (hw : PS c w i0 vt vp ts0 nest0 bud0 ns0) (h : PV c w vt vp W i1 vt1 vp1 ts1 nest bud1 ns R V y x) (K : GB W W2 S) (hS : ∀ z, S z → z = V ∨ z = R) (A : VAt W2 V 46 x2.cells.toArray) (B : VAt W2 R 46 y2.cells.toArray) : PV c w vt vp W2 i1 vt1 vp1 ts1 nest bud1 ns R V y2 x2 :=
  { h with
    ps := h.ps.awayG K (fun z hz => by
      have hz2 : w.heap.size ≤ z ∧ ¬ foot c.g vt1 vp1 z := by
        rcases hS z hz with rfl | rfl
        · exact ⟨h.lV, h.fV⟩
        · exact ⟨h.lR, h.fR⟩
      exact ⟨hz2.2, fun e => by have := (hw.toks.lt z e).2; omega, Nat.le_trans hw.grown.size hz2.1⟩)
    gb := h.gb.trans K (fun z hz hs => by have := h.lV; have := h.lR; rcases hS z hs with rfl | rfl <;> omega)
    var := A, res := B }
theorem PV.set {i0 nest0 bud0 : Nat} {ts0 : List Tk} {ns0 : List (Nd × Nat)} {W : World} {i1 bud1 R V : Nat} {vt1 vp1 : Value} {ts1 : List Tk} {y x : Nd} (hw : PS c w i0 vt vp ts0 nest0 bud0 ns0) (h : PV c w vt vp W i1 vt1 vp1 ts1 nest bud1 ns R V y x) (k : Nat) (v : Value) (x2 : Nd) (e : x.cells.toArray.setIfInBounds k v = x2.cells.toArray) : PV c w vt vp (W.setCell ⟨V, k, none⟩ v) i1 vt1 vp1 ts1 nest bud1 ns R V y x2 :=
  PV.away hw h (GB.of (S := fun z => z = V) (grown_set W V k v) (fun z hz => by cases hz; rfl)) (fun z hz => .inl hz) (by have := h.var.set k v; rw [e] at this; exact this) (h.res.setOther v h.ne)
theorem PV.setR {i0 nest0 bud0 : Nat} {ts0 : List Tk} {ns0 : List (Nd × Nat)} {W : World} {i1 bud1 R V : Nat} {vt1 vp1 : Value} {ts1 : List Tk} {y x : Nd} (hw : PS c w i0 vt vp ts0 nest0 bud0 ns0) (h : PV c w vt vp W i1 vt1 vp1 ts1 nest bud1 ns R V y x) (y2 : Nd) : PV c w vt vp (W.setRow R y2.cells.toArray) i1 vt1 vp1 ts1 nest bud1 ns R V y2 x :=
  PV.away hw h (GB.of (S := fun z => z = R) (vgrown_setRow (World.grownBy.refl W (some R)) R _ (.inl rfl)) (fun z hz => by cases hz; rfl)) (fun z hz => .inr hz) (h.var.other _ (fun e => h.ne e.symm)) (h.res.setRow _)
theorem PV.ret {W : World} {i1 bud1 R V : Nat} {vt1 vp1 : Value} {ts1 : List Tk} {y x : Nd} (h : PV c w vt vp W i1 vt1 vp1 ts1 nest bud1 ns R V y x) : Ret c w vt vp ts1 nest bud1 ns W := ⟨i1, vt1, vp1, h.ps, h.gb, h.sh⟩

theorem alloc_node (W : World) : (Instr.alloc 46 true (.tuple #[])).run Tryz.prog W = .ok (.pointer (some ⟨W.heap.size, 0, none⟩)) (W.alloc (.cells nd0.cells.toArray 46)) := by kernel_rfl
theorem build_port (of side : Nat) (W : World) : (Instr.build 46 #[(0, .int .i64 16), (5, .int .i64 (of : Int)), (6, .int .i64 (side : Int))]).run Tryz.prog W = .ok (.agg (portN of side 0 0).cells.toArray) W := by kernel_rfl

set_option maxHeartbeats 4000000 in
theorem port_any (h : PS c w i vt vp ts nest bud ns) (of side : Nat) :
    Calls Tryz.prog 166 #[.pointer (some ⟨c.g, 0, none⟩), .int .i64 (of : Int), .int .i64 (side : Int)] w (TellP c w vt vp nest (bud + 1) ns (fun x : Nd => .agg x.cells.toArray) (portV of side ts)) := by
  have HP : Hid (PS c w i vt vp ts nest bud ns) := h
  obtain ⟨ans, hans⟩ : ∃ a, portV of side ts = a := ⟨_, rfl⟩
  have HANS : Hid (portV of side ts = ans) := hans
  rw [hans]
  have K1 := World.grownBy_alloc w (.cells nd0.cells.toArray 46) none
  have RA := VAt.alloc w 46 nd0.cells.toArray
  clear h hans
  go_enter Tryz.func166, Tryz.ntmps166
  go_upto_region 1 with fail
  rw [← nd0_cells]
  generalize w.alloc (.cells nd0.cells.toArray 46) = w1 at *
  obtain ⟨R, hR⟩ : ∃ R, w.heap.size = R := ⟨_, rfl⟩
  rw [hR] at RA ⊢
  have HR2 : Hid (w.heap.size ≤ R) := Nat.le_of_eq hR
  clear hR
  have VA0 := VAt.alloc w1 46 nd0.cells.toArray
  rw [nd0_cells] at VA0
  go_upto_region 2 with (refine wpList_store_row rfl 46 (.tmp 7) (.tmp 10) rfl w1.heap.size (portN of side 0 0).cells.toArray rfl (by kernel_rfl) 46 _ VA0 (sizeNd _) rfl (all_nd _) ?_)
  rw [World.setRow_alloc_new]
  rw [← portN0_cells of side]
  clear VA0
  have K2 := World.grownBy_alloc w1 (.cells (portN of side 0 0).cells.toArray 46) none
  have RA2 := RA.kept K2
  have VA := VAt.alloc w1 46 (portN of side 0 0).cells.toArray
  have HV : Hid (w.heap.size ≤ w1.heap.size ∧ R ≠ w1.heap.size) := ⟨K1.size, fun e => by have := RA.lt; omega⟩
  have G := grown_trans K1 K2
  clear K1 K2 RA
  generalize w1.alloc (.cells (portN of side 0 0).cells.toArray 46) = w2 at *
  generalize w1.heap.size = V at *
  have HP2 : Hid (PS c w2 i vt vp ts nest bud ns) := HP.out.keep G
  have C1 := skip_any HP2.out wPort (ask_in (by decide))
  cases hb : isB ts wPort with
  | true =>
    rw [hb] at C1
    have HA2 : Hid (thenE (numT ts.tail) (fun p => .ok (portN of side p.1 p.1, p.2)) = ans) := by
      show _ = ans
      rw [← HANS.out, portV, if_pos hb]
    clear hb HANS
    obtain ⟨nr, hnr⟩ : ∃ x, numT ts.tail = x := ⟨_, rfl⟩
    have HN : Hid (numT ts.tail = nr) := hnr
    rw [hnr] at HA2
    clear hnr
    go_wp2_with fail
    refine C1.mono ?_
    rintro e w3 ⟨rfl, i3, vt3, vp3, H3, G3, F3⟩
    clear C1
    have HF : Hid (∀ x, w.heap.size ≤ x → x < w2.heap.size → ¬ foot c.g vt3 vp3 x) := fun x hx hx2 e => HP.out.not_foot hx (F3 x hx2 e)
    have VA3 := G3.vat VA (HP.out.not_foot HV.out.1)
    have RA3 := G3.vat RA2 (HP.out.not_foot HR2.out)
    have HG3 : Hid (GB w w3 (foot c.g vt vp) ∧ ∀ x, x < w.heap.size → foot c.g vt3 vp3 x → foot c.g vt vp x) := ⟨(GB.non G).trans G3 (fun _ _ h => h), fun x hx => F3 x (Nat.lt_of_lt_of_le hx G.size)⟩
    have HVL : Hid (V < w2.heap.size ∧ R < w2.heap.size) := ⟨VA.lt, RA2.lt⟩
    have CN := rnumber_any (H3.less (Nat.le_succ bud))
    rw [HN.out] at CN
    clear G G3 F3 VA RA2 H3 HP2
    go_wp2_with fail
    refine CN.mono ?_
    clear CN
    cases nr with
    | error er =>
      have HA3 : Hid (ans = .error er) := HA2.out.symm
      rintro e w4 ⟨rfl, G4⟩
      go_wp2
      refine ⟨rfl, ?_⟩
      rw [HA3.out]
      exact ⟨rfl, HG3.out.1.trans G4 HG3.out.2⟩
    | ok v =>
      obtain ⟨m, r2⟩ := v
      have HA3 : Hid (ans = .ok (portN of side m m, r2)) := HA2.out.symm
      rintro e w4 ⟨rfl, i4, vt4, vp4, H4, G4, F4⟩
      have VA4 := G4.vat VA3 (HF.out V HV.out.1 HVL.out.1)
      have RA4 := G4.vat RA3 (HF.out R HR2.out HVL.out.2)
      have HQ : Hid (PS c w4 i4 vt4 vp4 r2 nest (bud + 1) ns ∧ GB w w4 (foot c.g vt vp) ∧ (∀ x, x < w.heap.size → foot c.g vt4 vp4 x → foot c.g vt vp x) ∧ ¬ foot c.g vt4 vp4 V ∧ ¬ foot c.g vt4 vp4 R) :=
        ⟨H4, HG3.out.1.trans G4 HG3.out.2, fun x hx h => HG3.out.2 x hx (F4 x (Nat.lt_of_lt_of_le hx HG3.out.1.size) h), fun e => HF.out V HV.out.1 HVL.out.1 (F4 V VA3.lt e), fun e => HF.out R HR2.out HVL.out.2 (F4 R RA3.lt e)⟩
      clear HA2 HG3 HF HVL H4 G4 F4 VA3 RA3
      have v2 : w4.cell? ⟨V, 2, none⟩ = some (.int .u32 0) := VA4.cell 2
      have v2f := VA4.free 2
      have VA5 := VA4.set 2 (.int .u32 (m : Int))
      rw [show (portN of side 0 0).cells.toArray.setIfInBounds 2 (.int .u32 (m : Int)) = (portN of side m 0).cells.toArray by kernel_rfl] at VA5
      have RA5 := RA4.setOther (k := V) (i := 2) (.int .u32 (m : Int)) HV.out.2
      have HK5 : Hid (GB w4 (w4.setCell ⟨V, 2, none⟩ (.int .u32 (m : Int))) (fun x => x = V ∨ x = R)) := GB.of (grown_set w4 V 2 _) (fun x hx => by cases hx; exact .inl rfl)
      go_upto_region 4 with fail
      generalize w4.setCell ⟨V, 2, none⟩ (.int .u32 (m : Int)) = w5 at *
      clear v2 v2f VA4 RA4
      have v2 : w5.cell? ⟨V, 2, none⟩ = some (.int .u32 (m : Int)) := VA5.cell 2
      have v3 : w5.cell? ⟨V, 3, none⟩ = some (.int .u32 0) := VA5.cell 3
      have v3f := VA5.free 3
      have VA6 := VA5.set 3 (.int .u32 (m : Int))
      rw [show (portN of side m 0).cells.toArray.setIfInBounds 3 (.int .u32 (m : Int)) = (portN of side m m).cells.toArray by kernel_rfl] at VA6
      have RA6 := RA5.setOther (k := V) (i := 3) (.int .u32 (m : Int)) HV.out.2
      have HK6 : Hid (GB w4 (w5.setCell ⟨V, 3, none⟩ (.int .u32 (m : Int))) (fun x => x = V ∨ x = R)) := HK5.out.trans (GB.of (S := fun x => x = V ∨ x = R) (grown_set w5 V 3 (.int .u32 (m : Int))) (fun x hx => by cases hx; exact .inl rfl)) (fun _ _ h => h)
      go_upto_region 5 with fail
      generalize w5.setCell ⟨V, 3, none⟩ (.int .u32 (m : Int)) = w6 at *
      clear v2 v3 v3f VA5 RA5 HK5
      obtain ⟨X, hX⟩ : ∃ X, portN of side m m = X := ⟨_, rfl⟩
      rw [hX] at VA6
      have HX : Hid (portN of side m m = X) := hX
      clear hX
      go_wp2_with (first
        | refine wpList_load_row rfl 46 (.tmp 7) rfl V rfl 46 _ (0, 0) _ VA6 Tryz.underlying46 rfl (sizeNd _) ?_
        | refine wpList_store_row rfl 46 (.tmp 6) (.tmp 23) rfl R X.cells.toArray rfl rfl 46 _ RA6 (sizeNd _) rfl (all_nd _) ?_)
      refine bodyPost_ret (retRow1 rfl _ _ R _ _ rfl (RA6.setRow _) Tryz.underlying46 rfl (sizeNd _)) rfl ?_
      rw [HA3.out, HX.out]
      obtain ⟨H4, G4, F4, fV, fR⟩ := HQ.out
      refine ⟨rfl, Ret.finG HP.out G4 F4 H4 (HK6.out.trans (GB.of (S := fun x => x = V ∨ x = R) (vgrown_setRow (World.grownBy.refl w6 (some R)) R X.cells.toArray (.inl rfl)) (fun x hx => by cases hx; exact .inr rfl)) (fun _ _ h => h)) ?_⟩
      rintro x (rfl | rfl)
      · exact ⟨HV.out.1, fV⟩
      · exact ⟨HR2.out, fR⟩
  | false =>
    rw [hb] at C1
    have HA2 : Hid (thenE (mustV wPortrange ts) (fun r => thenE (numT r) fun p => thenE (mustV [45] p.2) fun r2 => thenE (numT r2) fun q => .ok (portN of side p.1 q.1, q.2)) = ans) := by
      show _ = ans
      rw [← HANS.out, portV, if_neg (by rw [hb]; simp)]
    have Q2 : PV c w vt vp w2 i vt vp ts nest bud ns R V nd0 (portN of side 0 0) := ⟨HP2.out, GB.non G, fun _ _ h => h, HP.out.not_foot HV.out.1, HP.out.not_foot HR2.out, VA, RA2, HV.out.1, HR2.out, HV.out.2⟩
    clear hb HANS VA RA2 G HP2
    go_wp2_with fail
    refine C1.mono ?_
    rintro e w3 ⟨rfl, hG⟩
    have G3 : w2.grownBy w3 none := hG
    have Q3 := Q2.keep G3
    have C2 := must_any Q3.ps wPortrange (ask_in (by decide))
    clear C1 hG G3 Q2
    generalize mustV wPortrange ts = mr at *
    go_wp2_with fail
    refine C2.mono ?_
    clear C2
    cases mr with
    | error er =>
      have HA3 : Hid (ans = .error er) := HA2.out.symm
      rintro e w4 ⟨rfl, G4⟩
      go_wp2
      refine ⟨rfl, ?_⟩
      rw [HA3.out]
      exact ⟨rfl, Q3.err G4⟩
    | ok r =>
      rintro e w4 ⟨rfl, R4⟩
      obtain ⟨i4, vt4, vp4, Q4⟩ := Q3.step R4
      have C3 := rnumber_any (Q4.ps.less (Nat.le_succ bud))
      rw [thenE_ok] at HA2
      clear Q3 R4
      generalize numT r = nr at *
      go_wp2_with fail
      refine C3.mono ?_
      clear C3
      cases nr with
      | error er =>
        have HA3 : Hid (ans = .error er) := HA2.out.symm
        rintro e w5 ⟨rfl, G5⟩
        go_wp2
        refine ⟨rfl, ?_⟩
        rw [HA3.out]
        exact ⟨rfl, Q4.err G5⟩
      | ok v =>
        obtain ⟨n, r5⟩ := v
        rintro e w5 ⟨rfl, R5⟩
        obtain ⟨i5, vt5, vp5, Q5⟩ := Q4.step R5
        rw [thenE_ok] at HA2
        clear Q4 R5
        have Q6 := PV.set HP.out Q5 2 (.int .u32 (n : Int)) (portN of side n 0) (by kernel_rfl)
        have v2 : w5.cell? ⟨V, 2, none⟩ = some (.int .u32 0) := Q5.var.cell 2
        have v2f := Q5.var.free 2
        clear Q5
        go_upto_region 8 with fail
        generalize w5.setCell ⟨V, 2, none⟩ (.int .u32 (n : Int)) = w6 at *
        have C4 := must_any (Q6.ps.less (Nat.le_succ bud)) [45] (ask_s (by decide) (by kernel_rfl))
        clear v2 v2f
        generalize mustV [45] r5 = mr at *
        go_wp2_with fail
        refine C4.mono ?_
        clear C4
        cases mr with
        | error er =>
          have HA3 : Hid (ans = .error er) := HA2.out.symm
          rintro e w7 ⟨rfl, G7⟩
          go_wp2
          refine ⟨rfl, ?_⟩
          rw [HA3.out]
          exact ⟨rfl, Q6.err G7⟩
        | ok r7 =>
          rintro e w7 ⟨rfl, R7⟩
          obtain ⟨i7, vt7, vp7, Q7⟩ := Q6.step R7
          have C5 := rnumber_any (Q7.ps.less (Nat.le_succ bud))
          rw [thenE_ok] at HA2
          clear Q6 R7
          generalize numT r7 = nr at *
          go_wp2_with fail
          refine C5.mono ?_
          clear C5
          cases nr with
          | error er =>
            have HA3 : Hid (ans = .error er) := HA2.out.symm
            rintro e w8 ⟨rfl, G8⟩
            go_wp2
            refine ⟨rfl, ?_⟩
            rw [HA3.out]
            exact ⟨rfl, Q7.err G8⟩
          | ok v =>
            obtain ⟨m, r8⟩ := v
            rintro e w8 ⟨rfl, R8⟩
            obtain ⟨i8, vt8, vp8, Q8⟩ := Q7.step R8
            have HA3 : Hid (ans = .ok (portN of side n m, r8)) := HA2.out.symm
            clear Q7 R8 HA2
            have Q9 := PV.set HP.out Q8 3 (.int .u32 (m : Int)) (portN of side n m) (by kernel_rfl)
            have v3 : w8.cell? ⟨V, 3, none⟩ = some (.int .u32 0) := Q8.var.cell 3
            have v3f := Q8.var.free 3
            clear Q8
            go_upto_region 10 with fail
            generalize w8.setCell ⟨V, 3, none⟩ (.int .u32 (m : Int)) = w9 at *
            clear v3 v3f
            generalize portN of side n m = X at *
            have VA9 := Q9.var
            have RA9 := Q9.res
            have HQ : Hid (PV c w vt vp (w9.setRow R X.cells.toArray) i8 vt8 vp8 r8 nest (bud + 1) ns R V X X) := PV.setR HP.out Q9 X
            clear Q9
            go_wp2_with (first
              | refine wpList_load_row rfl 46 (.tmp 7) rfl V rfl 46 _ (0, 0) _ VA9 Tryz.underlying46 rfl (sizeNd _) ?_
              | refine wpList_store_row rfl 46 (.tmp 6) (.tmp 42) rfl R X.cells.toArray rfl rfl 46 _ RA9 (sizeNd _) rfl (all_nd _) ?_)
            refine bodyPost_ret (retRow1 rfl _ _ R _ _ rfl (RA9.setRow _) Tryz.underlying46 rfl (sizeNd _)) rfl ?_
            rw [HA3.out]
            exact ⟨rfl, HQ.out.ret⟩

end
end Go.Proofs.YtbdmpjnlgdahmaaGreatDoor

namespace Go.Proofs.YtbdmpjnlgdahmaaGreatDoor
open Go.RowKit
set_option maxRecDepth 100000

set_option maxHeartbeats 400000 in
theorem holds_any (a : Option Addr) (ca n : Nat) (p s : Int) (w : World) (hn : n ≤ 140737488355328) :
    Calls Tryz.prog 188 #[.slice a n ca, .int .i64 p, .int .i64 s] w fun e w' => e = .returned (.bool (okB n p s)) ∧ w = w' := by
  by_cases h : s = 1 ∨ s = 2 ∨ s = 4
  · rcases h with rfl | rfl | rfl
    all_goals
      go_enter Tryz.func188, Tryz.ntmps188
      go_wp2
      · go_ret
        exact ⟨ret_bool (okB_of (by omega)), rfl⟩
      · go_ret
        exact ⟨ret_bool (okB_no (by omega)), rfl⟩
  · have h1 : (s != 1) = true := by rw [bne_iff_ne]; omega
    have h2 : (s != 2) = true := by rw [bne_iff_ne]; omega
    have h3 : (s != 4) = true := by rw [bne_iff_ne]; omega
    go_enter Tryz.func188, Tryz.ntmps188
    go_wp2
    go_ret
    exact ⟨ret_bool (okB_no (by omega)), rfl⟩

set_option maxHeartbeats 400000 in
theorem get_any (a : Option Addr) (ca : Nat) (xs : List UInt8) (p s : Int) (w : World) (ha : Cells w a xs) (hn : xs.length ≤ 140737488355328) :
    Calls Tryz.prog 182 #[.slice a xs.length ca, .int .i64 p, .int .i64 s] w fun e w' => e = .returned (.tuple #[.int .u32 (getV xs p s), .bool (okB xs.length p s)]) ∧ w = w' := by
  cases hok : okB xs.length p s with
  | false =>
    go_enter Tryz.func182, Tryz.ntmps182
    go_wp2_with (go_at_call 188; refine (holds_any a ca xs.length p s _ hn).mono ?_; rintro e w' ⟨rfl, rfl⟩)
    go_ret2
    simp [getV, hok]
  | true =>
    have hy := okB_yes hok
    obtain ⟨P, rfl⟩ := Int.eq_ofNat_of_zero_le hy.2.1
    obtain ⟨S, rfl⟩ : ∃ S : Nat, s = S := ⟨s.toNat, by omega⟩
    have hS : S = 1 ∨ S = 2 ∨ S = 4 := by omega
    have hP : P + S ≤ xs.length := by omega
    clear hy
    go_enter Tryz.func182, Tryz.ntmps182
    go_wp2_with (go_at_call 188; refine (holds_any a ca xs.length P S _ hn).mono ?_; rintro e w' ⟨rfl, rfl⟩)
    go_loop [8, 16, 9] (fun v i _ => ∃ k : Nat, k ≤ S ∧ i = .int .i64 k ∧ v = .int .u32 (numAt xs P k)) (fun _ i _ => S - (intOf i).toNat)
    case atStart => exact ⟨0, Nat.zero_le _, rfl, rfl⟩
    case round =>
      obtain ⟨k, hk, rfl, rfl⟩ := hrel
      by_cases hlt : k < S
      · obtain ⟨b, o, rfl, h1⟩ := ha.addr (k := P + k) (by omega)
        have c1 := h1 (P + k) (by omega)
        clear ha h1
        go_wp2
        go_round
        case rel => exact ⟨k + 1, by omega, by go_num, numAt_step xs P k (by omega) (by omega)⟩
        case measure => simp [intOf]; omega
      · obtain rfl : k = S := by omega
        go_wp2
        go_ret2
        simp [getV, hok]

end Go.Proofs.YtbdmpjnlgdahmaaGreatDoor
