/-
  The document's own chapter 12: a node without what its kind uses. The document's own chapter 12: a node without what its kind uses. The document's own chapter 12: a node's form.
-/
import Derived.Test.YtgoiblnddfggbaaLotP29
import Derived.Test.YtgoiblnddfggbaaTyBa1
import Derived.Test.YtgoiblnddfggbaaTyBa2
import Derived.Test.YtgoiblnddfggbaaTyBa3
import Derived.Test.YtgoiblnddfggbaaTyY
namespace Go.Proofs.Ytgoiblnddfggbaa
open Go.RowKit
set_option maxRecDepth 100000

set_option maxRecDepth 100000 in
set_option maxHeartbeats 16000000 in
theorem bare_d (x : Ng) (w : World) (hc : x.kind = 16 ∨ ¬ (x.kind = 1 ∨ x.kind = 3 ∨ x.kind = 4 ∨ x.kind = 6 ∨ (10 ≤ x.kind ∧ x.kind ≤ 16))) : Calls Try.prog 83 #[.agg x.cells.toArray] w fun e w' => e = .returned (.tuple #[.agg (bareG x).cells.toArray, .bool (mayG x)]) ∧ w.grownBy w' none := by
  have HBX := box_ng x
  obtain ⟨h1, h2, h3⟩ := two_ng w x
  obtain ⟨X, hX⟩ : ∃ X, x.cells.toArray = X := ⟨_, rfl⟩
  rw [hX] at HBX ⊢
  go_enter Try.func83, Try.ntmps83
  go_upto_region 1 with fail
  rw [← hX] at *
  rw [show #[.int .i64 0, .int .i64 0, .int .u32 0, .int .u32 0, .int .i64 0, .int .i64 0, .int .i64 0, .int .u8 0, .int .u8 0, .int .u8 0, .int .u8 0, .int .u8 0, .int .u8 0, .int .u8 0, .int .u8 0, .int .u8 0, .int .u8 0, .int .u8 0, .int .u8 0, .int .u8 0, .int .u8 0, .int .u8 0, .int .u8 0, .int .i64 0] = ngZ.cells.toArray from rfl]
  generalize (w.alloc (.cells x.cells.toArray 46)).alloc (.cells ngZ.cells.toArray 46) = W at *
  obtain ⟨B, hB⟩ : ∃ B, w.heap.size = B := ⟨_, rfl⟩
  rw [hB] at h1 h2 ⊢
  have HB : Hid (w.heap.size ≤ B) := Nat.le_of_eq hB
  have HW0 : Hid (BW w W B x) := ⟨h1, h2, h3⟩
  have c0 := h1.kind
  have c1 := h1.op
  have c2 := h1.n
  have c3 := h1.m
  have c4 := h1.size
  have c5 := h1.of
  have c6 := h1.side
  have c23 := h1.bits
  have f1 := VAt.free h1 1
  have f2 := VAt.free h1 2
  have f3 := VAt.free h1 3
  have f4 := VAt.free h1 4
  have f5 := VAt.free h1 5
  have f6 := VAt.free h1 6
  have f23 := VAt.free h1 23
  obtain ⟨kk, hkk⟩ : ∃ kk, x.kind = kk := ⟨_, rfl⟩
  have HK : Hid (x.kind = kk) := hkk
  rw [hkk] at c0 hc
  clear HBX hX X h1 h2 h3 hB hkk
  have HEB : Hid (∀ (y : Ng) (bb : Bool), bareG x = y → mayG x = bb → Ending.returned (.tuple #[.agg (bareG x).cells.toArray, .bool (mayG x)]) = .returned (.tuple #[.agg y.cells.toArray, .bool bb])) := fun y bb h h' => by rw [h, h']
  rcases hc with rfl | hn
  · have CB2 := between_any x.side 0 2 W
    have HMG : Hid (mayG x = ((x.of == 0 || inG x.of 4 5) && inG x.side 0 2)) := by show mayG x = _; unfold mayG; rw [HK.out]; rfl
    obtain ⟨oo, hoo⟩ : ∃ oo, x.of = oo := ⟨_, rfl⟩
    obtain ⟨ss, hss⟩ : ∃ ss, x.side = ss := ⟨_, rfl⟩
    obtain ⟨nn, hnn⟩ : ∃ nn, x.n = nn := ⟨_, rfl⟩
    rw [hoo] at c5
    rw [hss] at CB2 c6
    rw [hoo, hss] at HMG
    obtain ⟨b2, hb2⟩ : ∃ b2, inG ss 0 2 = b2 := ⟨_, rfl⟩
    rw [hb2] at CB2 HMG
    clear hoo hss hb2 hnn
    have ho4 : oo = 0 ∨ oo = 4 ∨ oo = 5 ∨ ¬ (oo = 0 ∨ oo = 4 ∨ oo = 5) := by omega
    rcases ho4 with rfl | rfl | rfl | hno
    · have HM : Hid (mayG x = b2) := by show mayG x = _; rw [HMG.out]; cases b2 <;> rfl
      clear HMG
      go_wp2_with fail
      refine CB2.mono ?_
      rintro e w1 ⟨rfl, rfl⟩
      clear CB2
      go_upto_region 40 with fail
      have HW := (BW.set (z := ({ x with of := 0, side := 0, n := 0, m := 0 } : Ng)) (BW.set (z := ({ x with of := 0, side := 0, n := 0 } : Ng)) (BW.set (z := ({ x with of := 0, side := 0 } : Ng)) (BW.set (z := ({ x with of := 0 } : Ng)) HW0.out HB.out 5 (.int .i64 0) rfl) HB.out 6 (.int .i64 0) rfl) HB.out 2 (.int .u32 0) rfl) HB.out 3 (.int .u32 0) rfl)
      obtain ⟨Yn, hYn⟩ : ∃ Yn, ({ x with of := 0, side := 0, n := 0, m := 0 } : Ng) = Yn := ⟨_, rfl⟩
      have HE : Hid (bareG x = Yn ∧ mayG x = b2) := ⟨by rw [← hYn]; unfold bareG; rw [HK.out]; rfl, HM.out⟩
      rw [hYn] at HW
      clear hYn HM
      generalize (((w1.setCell ⟨B, 5, none⟩ (.int .i64 0)).setCell ⟨B, 6, none⟩ (.int .i64 0)).setCell ⟨B, 2, none⟩ (.int .u32 0)).setCell ⟨B, 3, none⟩ (.int .u32 0) = Wf at *
      have HY : Hid ((Try.prog.info? 46).map (·.size) = some Yn.cells.toArray.size ∧ ngZ.cells.toArray.size = Yn.cells.toArray.size ∧ Yn.cells.toArray.all (·.oneCell') = true) := ⟨ng_size _, rfl, ng_all _⟩
      obtain ⟨Y, hY⟩ : ∃ Y, Yn.cells.toArray = Y := ⟨_, rfl⟩
      have HW1 : Hid (VAt Wf B 46 Y ∧ VAt Wf (B + 1) 46 ngZ.cells.toArray ∧ w.grownBy Wf none) := by
        obtain ⟨g1, g2, g3⟩ := HW
        exact ⟨hY ▸ g1, g2, g3⟩
      have HEB1 : Hid (Ending.returned (.tuple #[.agg (bareG x).cells.toArray, .bool (mayG x)]) = .returned (.tuple #[.agg Y, .bool b2])) := by
        show _ = _
        rw [HE.out.1, HE.out.2, hY]
      rw [hY] at HY
      clear HW HE HEB HW0 hY
      go_wp2_with (first | refine wpList_load_row rfl 46 (.tmp 1) rfl B rfl 46 Y (0, 0) _ HW1.out.1 Try.underlying46 rfl HY.out.1 ?_ | refine wpList_store_row rfl 46 (.tmp 2) (.tmp 102) rfl (B + 1) Y rfl rfl 46 _ HW1.out.2.1 HY.out.1 HY.out.2.1 HY.out.2.2 ?_)
      refine bodyPost_ret (ret_rowT rfl _ _ (B + 1) Y _ rfl (VAt.setRow HW1.out.2.1 _) Try.underlying46 rfl HY.out.1) rfl ?_
      exact ⟨HEB1.out.symm, vgrown_setRow HW1.out.2.2 (B + 1) _ (.inr (by have := HB.out; omega))⟩
    · have HM : Hid (mayG x = b2) := by show mayG x = _; rw [HMG.out]; cases b2 <;> rfl
      clear HMG
      go_wp2_with fail
      refine CB2.mono ?_
      rintro e w1 ⟨rfl, rfl⟩
      clear CB2
      go_upto_region 40 with fail
      have HW := (BW.set (z := ({ x with of := 0, side := 0, n := 0, m := 0 } : Ng)) (BW.set (z := ({ x with of := 0, side := 0, n := 0 } : Ng)) (BW.set (z := ({ x with of := 0, side := 0 } : Ng)) (BW.set (z := ({ x with of := 0 } : Ng)) HW0.out HB.out 5 (.int .i64 0) rfl) HB.out 6 (.int .i64 0) rfl) HB.out 2 (.int .u32 0) rfl) HB.out 3 (.int .u32 0) rfl)
      obtain ⟨Yn, hYn⟩ : ∃ Yn, ({ x with of := 0, side := 0, n := 0, m := 0 } : Ng) = Yn := ⟨_, rfl⟩
      have HE : Hid (bareG x = Yn ∧ mayG x = b2) := ⟨by rw [← hYn]; unfold bareG; rw [HK.out]; rfl, HM.out⟩
      rw [hYn] at HW
      clear hYn HM
      generalize (((w1.setCell ⟨B, 5, none⟩ (.int .i64 0)).setCell ⟨B, 6, none⟩ (.int .i64 0)).setCell ⟨B, 2, none⟩ (.int .u32 0)).setCell ⟨B, 3, none⟩ (.int .u32 0) = Wf at *
      have HY : Hid ((Try.prog.info? 46).map (·.size) = some Yn.cells.toArray.size ∧ ngZ.cells.toArray.size = Yn.cells.toArray.size ∧ Yn.cells.toArray.all (·.oneCell') = true) := ⟨ng_size _, rfl, ng_all _⟩
      obtain ⟨Y, hY⟩ : ∃ Y, Yn.cells.toArray = Y := ⟨_, rfl⟩
      have HW1 : Hid (VAt Wf B 46 Y ∧ VAt Wf (B + 1) 46 ngZ.cells.toArray ∧ w.grownBy Wf none) := by
        obtain ⟨g1, g2, g3⟩ := HW
        exact ⟨hY ▸ g1, g2, g3⟩
      have HEB1 : Hid (Ending.returned (.tuple #[.agg (bareG x).cells.toArray, .bool (mayG x)]) = .returned (.tuple #[.agg Y, .bool b2])) := by
        show _ = _
        rw [HE.out.1, HE.out.2, hY]
      rw [hY] at HY
      clear HW HE HEB HW0 hY
      go_wp2_with (first | refine wpList_load_row rfl 46 (.tmp 1) rfl B rfl 46 Y (0, 0) _ HW1.out.1 Try.underlying46 rfl HY.out.1 ?_ | refine wpList_store_row rfl 46 (.tmp 2) (.tmp 102) rfl (B + 1) Y rfl rfl 46 _ HW1.out.2.1 HY.out.1 HY.out.2.1 HY.out.2.2 ?_)
      refine bodyPost_ret (ret_rowT rfl _ _ (B + 1) Y _ rfl (VAt.setRow HW1.out.2.1 _) Try.underlying46 rfl HY.out.1) rfl ?_
      exact ⟨HEB1.out.symm, vgrown_setRow HW1.out.2.2 (B + 1) _ (.inr (by have := HB.out; omega))⟩
    · have HM : Hid (mayG x = b2) := by show mayG x = _; rw [HMG.out]; cases b2 <;> rfl
      clear HMG
      go_wp2_with fail
      refine CB2.mono ?_
      rintro e w1 ⟨rfl, rfl⟩
      clear CB2
      go_upto_region 40 with fail
      have HW := (BW.set (z := ({ x with of := 0, side := 0, n := 0, m := 0 } : Ng)) (BW.set (z := ({ x with of := 0, side := 0, n := 0 } : Ng)) (BW.set (z := ({ x with of := 0, side := 0 } : Ng)) (BW.set (z := ({ x with of := 0 } : Ng)) HW0.out HB.out 5 (.int .i64 0) rfl) HB.out 6 (.int .i64 0) rfl) HB.out 2 (.int .u32 0) rfl) HB.out 3 (.int .u32 0) rfl)
      obtain ⟨Yn, hYn⟩ : ∃ Yn, ({ x with of := 0, side := 0, n := 0, m := 0 } : Ng) = Yn := ⟨_, rfl⟩
      have HE : Hid (bareG x = Yn ∧ mayG x = b2) := ⟨by rw [← hYn]; unfold bareG; rw [HK.out]; rfl, HM.out⟩
      rw [hYn] at HW
      clear hYn HM
      generalize (((w1.setCell ⟨B, 5, none⟩ (.int .i64 0)).setCell ⟨B, 6, none⟩ (.int .i64 0)).setCell ⟨B, 2, none⟩ (.int .u32 0)).setCell ⟨B, 3, none⟩ (.int .u32 0) = Wf at *
      have HY : Hid ((Try.prog.info? 46).map (·.size) = some Yn.cells.toArray.size ∧ ngZ.cells.toArray.size = Yn.cells.toArray.size ∧ Yn.cells.toArray.all (·.oneCell') = true) := ⟨ng_size _, rfl, ng_all _⟩
      obtain ⟨Y, hY⟩ : ∃ Y, Yn.cells.toArray = Y := ⟨_, rfl⟩
      have HW1 : Hid (VAt Wf B 46 Y ∧ VAt Wf (B + 1) 46 ngZ.cells.toArray ∧ w.grownBy Wf none) := by
        obtain ⟨g1, g2, g3⟩ := HW
        exact ⟨hY ▸ g1, g2, g3⟩
      have HEB1 : Hid (Ending.returned (.tuple #[.agg (bareG x).cells.toArray, .bool (mayG x)]) = .returned (.tuple #[.agg Y, .bool b2])) := by
        show _ = _
        rw [HE.out.1, HE.out.2, hY]
      rw [hY] at HY
      clear HW HE HEB HW0 hY
      go_wp2_with (first | refine wpList_load_row rfl 46 (.tmp 1) rfl B rfl 46 Y (0, 0) _ HW1.out.1 Try.underlying46 rfl HY.out.1 ?_ | refine wpList_store_row rfl 46 (.tmp 2) (.tmp 102) rfl (B + 1) Y rfl rfl 46 _ HW1.out.2.1 HY.out.1 HY.out.2.1 HY.out.2.2 ?_)
      refine bodyPost_ret (ret_rowT rfl _ _ (B + 1) Y _ rfl (VAt.setRow HW1.out.2.1 _) Try.underlying46 rfl HY.out.1) rfl ?_
      exact ⟨HEB1.out.symm, vgrown_setRow HW1.out.2.2 (B + 1) _ (.inr (by have := HB.out; omega))⟩
    · have u0 : (oo == 0) = false := by rw [beq_eq_false_iff_ne]; omega
      have u4 : (oo == 4) = false := by rw [beq_eq_false_iff_ne]; omega
      have u5 : (oo == 5) = false := by rw [beq_eq_false_iff_ne]; omega
      have HM : Hid (mayG x = false) := by
        show mayG x = _
        rw [HMG.out, u0, show inG oo 4 5 = false by unfold inG; rw [← Bool.decide_and, decide_eq_false_iff_not]; omega]
        rfl
      clear HMG CB2 hno
      go_upto_region 40 with fail
      have HW := (BW.set (z := ({ x with of := 0, side := 0, n := 0, m := 0 } : Ng)) (BW.set (z := ({ x with of := 0, side := 0, n := 0 } : Ng)) (BW.set (z := ({ x with of := 0, side := 0 } : Ng)) (BW.set (z := ({ x with of := 0 } : Ng)) HW0.out HB.out 5 (.int .i64 0) rfl) HB.out 6 (.int .i64 0) rfl) HB.out 2 (.int .u32 0) rfl) HB.out 3 (.int .u32 0) rfl)
      obtain ⟨Yn, hYn⟩ : ∃ Yn, ({ x with of := 0, side := 0, n := 0, m := 0 } : Ng) = Yn := ⟨_, rfl⟩
      have HE : Hid (bareG x = Yn ∧ mayG x = false) := ⟨by rw [← hYn]; unfold bareG; rw [HK.out]; rfl, HM.out⟩
      rw [hYn] at HW
      clear hYn HM
      generalize (((W.setCell ⟨B, 5, none⟩ (.int .i64 0)).setCell ⟨B, 6, none⟩ (.int .i64 0)).setCell ⟨B, 2, none⟩ (.int .u32 0)).setCell ⟨B, 3, none⟩ (.int .u32 0) = Wf at *
      have HY : Hid ((Try.prog.info? 46).map (·.size) = some Yn.cells.toArray.size ∧ ngZ.cells.toArray.size = Yn.cells.toArray.size ∧ Yn.cells.toArray.all (·.oneCell') = true) := ⟨ng_size _, rfl, ng_all _⟩
      obtain ⟨Y, hY⟩ : ∃ Y, Yn.cells.toArray = Y := ⟨_, rfl⟩
      have HW1 : Hid (VAt Wf B 46 Y ∧ VAt Wf (B + 1) 46 ngZ.cells.toArray ∧ w.grownBy Wf none) := by
        obtain ⟨g1, g2, g3⟩ := HW
        exact ⟨hY ▸ g1, g2, g3⟩
      have HEB1 : Hid (Ending.returned (.tuple #[.agg (bareG x).cells.toArray, .bool (mayG x)]) = .returned (.tuple #[.agg Y, .bool false])) := by
        show _ = _
        rw [HE.out.1, HE.out.2, hY]
      rw [hY] at HY
      clear HW HE HEB HW0 hY
      go_wp2_with (first | refine wpList_load_row rfl 46 (.tmp 1) rfl B rfl 46 Y (0, 0) _ HW1.out.1 Try.underlying46 rfl HY.out.1 ?_ | refine wpList_store_row rfl 46 (.tmp 2) (.tmp 102) rfl (B + 1) Y rfl rfl 46 _ HW1.out.2.1 HY.out.1 HY.out.2.1 HY.out.2.2 ?_)
      refine bodyPost_ret (ret_rowT rfl _ _ (B + 1) Y _ rfl (VAt.setRow HW1.out.2.1 _) Try.underlying46 rfl HY.out.1) rfl ?_
      exact ⟨HEB1.out.symm, vgrown_setRow HW1.out.2.2 (B + 1) _ (.inr (by have := HB.out; omega))⟩
  · have t1 : (kk == 1) = false := by rw [beq_eq_false_iff_ne]; omega
    have t3 : (kk == 3) = false := by rw [beq_eq_false_iff_ne]; omega
    have t4 : (kk == 4) = false := by rw [beq_eq_false_iff_ne]; omega
    have t6 : (kk == 6) = false := by rw [beq_eq_false_iff_ne]; omega
    have t10 : (kk == 10) = false := by rw [beq_eq_false_iff_ne]; omega
    have t11 : (kk == 11) = false := by rw [beq_eq_false_iff_ne]; omega
    have t12 : (kk == 12) = false := by rw [beq_eq_false_iff_ne]; omega
    have t13 : (kk == 13) = false := by rw [beq_eq_false_iff_ne]; omega
    have t14 : (kk == 14) = false := by rw [beq_eq_false_iff_ne]; omega
    have t15 : (kk == 15) = false := by rw [beq_eq_false_iff_ne]; omega
    have t16 : (kk == 16) = false := by rw [beq_eq_false_iff_ne]; omega
    have HM : Hid (mayG x = true) := by
      show mayG x = _
      unfold mayG
      rw [HK.out]
      repeat rw [if_neg (by omega)]
    have HE : Hid (bareG x = x ∧ mayG x = true) := by
      refine ⟨?_, HM.out⟩
      unfold bareG
      rw [HK.out]
      repeat rw [if_neg (by omega)]
    clear hn HM
    go_upto_region 40 with fail
    have HW := HW0.out
    generalize W = Wf at *
    have HY : Hid ((Try.prog.info? 46).map (·.size) = some x.cells.toArray.size ∧ ngZ.cells.toArray.size = x.cells.toArray.size ∧ x.cells.toArray.all (·.oneCell') = true) := ⟨ng_size _, rfl, ng_all _⟩
    obtain ⟨Y, hY⟩ : ∃ Y, x.cells.toArray = Y := ⟨_, rfl⟩
    have HW1 : Hid (VAt Wf B 46 Y ∧ VAt Wf (B + 1) 46 ngZ.cells.toArray ∧ w.grownBy Wf none) := by
      obtain ⟨g1, g2, g3⟩ := HW
      exact ⟨hY ▸ g1, g2, g3⟩
    have HEB1 : Hid (Ending.returned (.tuple #[.agg (bareG x).cells.toArray, .bool (mayG x)]) = .returned (.tuple #[.agg Y, .bool true])) := by
      show _ = _
      rw [HE.out.1, HE.out.2, hY]
    rw [hY] at HY
    clear HW HE HEB HW0 hY
    go_wp2_with (first | refine wpList_load_row rfl 46 (.tmp 1) rfl B rfl 46 Y (0, 0) _ HW1.out.1 Try.underlying46 rfl HY.out.1 ?_ | refine wpList_store_row rfl 46 (.tmp 2) (.tmp 102) rfl (B + 1) Y rfl rfl 46 _ HW1.out.2.1 HY.out.1 HY.out.2.1 HY.out.2.2 ?_)
    refine bodyPost_ret (ret_rowT rfl _ _ (B + 1) Y _ rfl (VAt.setRow HW1.out.2.1 _) Try.underlying46 rfl HY.out.1) rfl ?_
    exact ⟨HEB1.out.symm, vgrown_setRow HW1.out.2.2 (B + 1) _ (.inr (by have := HB.out; omega))⟩

end Go.Proofs.Ytgoiblnddfggbaa

namespace Go.Proofs.Ytgoiblnddfggbaa
open Go.RowKit
set_option maxRecDepth 100000

theorem bare_any (x : Ng) (w : World) : Calls Try.prog 83 #[.agg x.cells.toArray] w fun e w' => e = .returned (.tuple #[.agg (bareG x).cells.toArray, .bool (mayG x)]) ∧ w.grownBy w' none := by
  have h : (x.kind = 1 ∨ x.kind = 3 ∨ x.kind = 4 ∨ x.kind = 6 ∨ x.kind = 10 ∨ x.kind = 11 ∨ x.kind = 12 ∨ x.kind = 13) ∨ x.kind = 14 ∨ x.kind = 15 ∨ (x.kind = 16 ∨ ¬ (x.kind = 1 ∨ x.kind = 3 ∨ x.kind = 4 ∨ x.kind = 6 ∨ (10 ≤ x.kind ∧ x.kind ≤ 16))) := by omega
  rcases h with h | h | h | h
  · exact bare_a x w h
  · exact bare_b x w h
  · exact bare_c x w h
  · exact bare_d x w h

end Go.Proofs.Ytgoiblnddfggbaa

namespace Go.Proofs.Ytgoiblnddfggbaa
open Go.RowKit
set_option maxRecDepth 100000

/-- A struct put together behind a guard. -/
theorem wpList_bldG {P : Program} {ops : Array Oper} {rest : List Oper} {op : Oper} {a : Act} {w : World} {Q : Exit → Act → World → Prop} (hw : Region.wanted op (yielded ops a.tmps) = true)
    (t : TypeId) (ps : Array (Nat × Operand)) (ho : op.op = .build t ps) (qs : Array (Nat × Value)) (hq : ps.map (fun (i, x) => (i, a.eval x)) = qs) (v : Value)
    (hr : ∀ W : World, (Instr.build t qs).run P W = .ok v W)
    (h : wpList P ops Q rest (a.put op.dst v) w) : wpList P ops Q (op :: rest) a w :=
  BigFrame.wpList_want hw fun _ hK => by
    unfold Oper.wp execOp
    have hr' := hr w
    rw [← hq] at hr'
    simp only [ho, Sem.run_bind, Sem.run_pure, Result.andThen_ok, hr']
    exact hK _ _ h

set_option maxRecDepth 100000 in
set_option maxHeartbeats 8000000 in
theorem form12_any (x : Ng) (w : World) : Calls Try.prog 66 #[.agg x.cells.toArray] w fun e w' => e = .returned (.bool (decide (0 ≤ arI x.kind) && formG x)) ∧ w.grownBy w' none := by
  have HBX := box_ng x
  have HCB : Hid (∀ W : World, Calls Try.prog 83 #[.agg x.cells.toArray] W fun e w' => e = .returned (.tuple #[.agg (bareG x).cells.toArray, .bool (mayG x)]) ∧ W.grownBy w' none) := bare_any x
  have HZ : Hid ((Try.prog.info? 46).map (·.size) = some x.cells.toArray.size) := ng_size x
  have HY : Hid ((Try.prog.info? 46).map (·.size) = some (bareG x).cells.toArray.size ∧ 24 = (bareG x).cells.toArray.size ∧ (bareG x).cells.toArray.all (·.oneCell') = true) := ⟨ng_size _, rfl, ng_all _⟩
  have HEQ : ∀ W : World, (Op.equalIn 10000 46 (.agg (bareG x).cells.toArray) (.agg #[.int .i64 x.kind, .int .i64 0, .int .u32 0, .int .u32 0, .int .i64 0, .int .i64 0, .int .i64 0, .int .u8 0, .int .u8 0, .int .u8 0, .int .u8 0, .int .u8 0, .int .u8 0, .int .u8 0, .int .u8 0, .int .u8 0, .int .u8 0, .int .u8 0, .int .u8 0, .int .u8 0, .int .u8 0, .int .u8 0, .int .u8 0, .int .i64 0])).run Try.prog W = .ok (sameG (bareG x) (kindN x.kind)) W := ng_cmp (bareG x) (kindN x.kind)
  have CA := arity12_any x.kind
  have h3 := World.grownBy_alloc w (.cells x.cells.toArray 46) none
  have V := NB.alloc w x
  have c0 := V.kind
  have HE : Hid ((decide (0 ≤ arI x.kind) && formG x) = (decide (0 ≤ arI x.kind) && (mayG x && sameG (bareG x) (kindN x.kind)))) := by
    unfold Hid formG
    rw [bare_form, Bool.and_comm (sameG x (useG x))]
  obtain ⟨sb, hsb⟩ : ∃ sb, sameG (bareG x) (kindN x.kind) = sb := ⟨_, rfl⟩
  obtain ⟨mb, hmb⟩ : ∃ mb, mayG x = mb := ⟨_, rfl⟩
  obtain ⟨A, hA⟩ : ∃ A, arI x.kind = A := ⟨_, rfl⟩
  obtain ⟨Y, hY⟩ : ∃ Y, (bareG x).cells.toArray = Y := ⟨_, rfl⟩
  obtain ⟨X, hX⟩ : ∃ X, x.cells.toArray = X := ⟨_, rfl⟩
  rw [HE.out]
  rw [hsb, hY] at HEQ
  rw [hsb, hmb, hA]
  rw [hA] at CA
  obtain ⟨dA, hdA⟩ : ∃ dA, decide (0 ≤ A) = dA := ⟨_, rfl⟩
  rw [hdA]
  rw [hmb, hY, hX] at HCB
  rw [hY] at HY
  rw [hX] at HBX HZ h3 ⊢
  clear HE hsb hmb hA hY
  go_enter Try.func66, Try.ntmps66
  go_upto_region 1 with fail
  clear V c0
  have V1 : VAt (w.alloc (.cells X 46)) w.heap.size 46 X := VAt.alloc _ _ _
  have c0 : (w.alloc (.cells X 46)).cell? ⟨w.heap.size, 0, none⟩ = some (.int .i64 x.kind) := by rw [← hX]; exact (NB.alloc w x).kind
  generalize w.alloc (.cells X 46) = w1 at *
  generalize w.heap.size = B at *
  obtain ⟨kk, hkk⟩ : ∃ kk, x.kind = kk := ⟨_, rfl⟩
  rw [hkk] at *
  clear HBX hX hkk
  go_wp2_with (refine wpList_load_row rfl 46 (.tmp 1) rfl B rfl 46 X (0, 0) _ V1 Try.underlying46 rfl HZ.out ?_)
  refine (HCB.out _).mono ?_
  rintro e w2 ⟨rfl, K2⟩
  have HG2 : Hid (w.grownBy (w2.alloc (.cells Y 46)) none) := grown_trans (grown_trans h3 K2) (World.grownBy_alloc w2 _ none)
  have V2 : VAt (w2.alloc (.cells Y 46)) w2.heap.size 46 Y := VAt.alloc _ _ _
  have c1 := (grown_trans K2 (World.grownBy_alloc w2 (.cells Y 46) none)).cell c0 (by simp)
  go_upto_region 2 with (refine wpList_store_row rfl 46 (.tmp 3) (.tmp 8) rfl w2.heap.size Y rfl rfl 46 _ (heap_alloc_new w2 _) HY.out.1 HY.out.2.1 HY.out.2.2 ?_)
  rw [World.setRow_alloc_new]
  clear V1 K2 h3 c0
  generalize w2.alloc (.cells Y 46) = w3 at *
  generalize w2.heap.size = D at *
  go_wp2_with fail
  refine (CA _).mono ?_
  rintro e w4 ⟨rfl, rfl⟩
  clear CA
  cases dA with
  | false =>
    have hdB : decide (A ≥ 0) = false := hdA
    go_wp2
    go_ret
    exact ⟨rfl, HG2.out⟩
  | true =>
    have hdB : decide (A ≥ 0) = true := hdA
    cases mb with
    | false =>
      go_wp2
      go_ret
      exact ⟨rfl, HG2.out⟩
    | true =>
      go_wp2_with (refine wpList_load_rowG rfl 46 (.tmp 3) rfl D rfl 46 Y (0, 0) _ V2 Try.underlying46 rfl HY.out.1 ?_)
      go_ret
      exact ⟨rfl, HG2.out⟩

end Go.Proofs.Ytgoiblnddfggbaa
