/-
  The document's own chapter 12: a node without what its kind uses.
-/
import Derived.Test.YtgoiblnddfggbaaLotP29
namespace Go.Proofs.Ytgoiblnddfggbaa
open Go.RowKit
set_option maxRecDepth 100000

set_option maxRecDepth 100000 in
set_option maxHeartbeats 16000000 in
theorem bare_a (x : Ng) (w : World) (hc : x.kind = 1 ∨ x.kind = 3 ∨ x.kind = 4 ∨ x.kind = 6 ∨ x.kind = 10 ∨ x.kind = 11 ∨ x.kind = 12 ∨ x.kind = 13) : Calls Try.prog 83 #[.agg x.cells.toArray] w fun e w' => e = .returned (.tuple #[.agg (bareG x).cells.toArray, .bool (mayG x)]) ∧ w.grownBy w' none := by
  have HBX := box_ng x
  obtain ⟨h1, h2, h3⟩ := two_ng w x
  obtain ⟨X, hX⟩ : ∃ X, x.cells.toArray = X := ⟨_, rfl⟩
  rw [hX] at HBX ⊢
  go_enter Try.func83, Try.ntmps83
  go_upto_region 1 with fail
  rw [← hX] at *
  rw [show #[.int .i64 0, .int .i64 0, .int .u32 0, .int .u32 0, .int .i64 0, .int .i64 0, .int .i64 0, .int .u8 0, .int .u8 0, .int .u8 0, .int .u8 0, .int .u8 0, .int .u8 0, .int .u8 0, .int .u8 0, .int .u8 0, .int .u8 0, .int .u8 0, .int .u8 0, .int .u8 0, .int .u8 0, .int .u8 0, .int .u8 0, .int .i64 0] = ngZ.cells.toArray from rfl]
  generalize (w.alloc (.cells x.cells.toArray 46)).alloc (.cells ngZ.cells.toArray 46) = W at *
  obtain ⟨B, hB⟩ : ∃ B, w.heap.size = B := ⟨_, rfl⟩
  rw [hB] at h1 h2 ⊢
  have HB : Hid (w.heap.size ≤ B) := Nat.le_of_eq hB
  have HW0 : Hid (BW w W B x) := ⟨h1, h2, h3⟩
  have c0 := h1.kind
  have c1 := h1.op
  have c2 := h1.n
  have c3 := h1.m
  have c4 := h1.size
  have c5 := h1.of
  have c6 := h1.side
  have c23 := h1.bits
  have f1 := VAt.free h1 1
  have f2 := VAt.free h1 2
  have f3 := VAt.free h1 3
  have f4 := VAt.free h1 4
  have f5 := VAt.free h1 5
  have f6 := VAt.free h1 6
  have f23 := VAt.free h1 23
  obtain ⟨kk, hkk⟩ : ∃ kk, x.kind = kk := ⟨_, rfl⟩
  have HK : Hid (x.kind = kk) := hkk
  rw [hkk] at c0 hc
  clear HBX hX X h1 h2 h3 hB hkk
  have HEB : Hid (∀ (y : Ng) (bb : Bool), bareG x = y → mayG x = bb → Ending.returned (.tuple #[.agg (bareG x).cells.toArray, .bool (mayG x)]) = .returned (.tuple #[.agg y.cells.toArray, .bool bb])) := fun y bb h h' => by rw [h, h']
  rcases hc with rfl | rfl | rfl | rfl | rfl | rfl | rfl | rfl
  · obtain ⟨bf, hbf⟩ : ∃ bf, true = bf := ⟨_, rfl⟩
    have HM : Hid (mayG x = bf) := by show mayG x = _; rw [← hbf]; unfold mayG; rw [HK.out]; rfl
    subst hbf
    go_upto_region 40 with fail
    have HW := (BW.set (z := ({ x with n := 0 } : Ng)) HW0.out HB.out 2 (.int .u32 0) rfl)
    obtain ⟨Yn, hYn⟩ : ∃ Yn, ({ x with n := 0 } : Ng) = Yn := ⟨_, rfl⟩
    have HE : Hid (bareG x = Yn ∧ mayG x = true) := ⟨by rw [← hYn]; unfold bareG; rw [HK.out]; rfl, HM.out⟩
    rw [hYn] at HW
    clear hYn HM
    generalize W.setCell ⟨B, 2, none⟩ (.int .u32 0) = Wf at *
    have HY : Hid ((Try.prog.info? 46).map (·.size) = some Yn.cells.toArray.size ∧ ngZ.cells.toArray.size = Yn.cells.toArray.size ∧ Yn.cells.toArray.all (·.oneCell') = true) := ⟨ng_size _, rfl, ng_all _⟩
    obtain ⟨Y, hY⟩ : ∃ Y, Yn.cells.toArray = Y := ⟨_, rfl⟩
    have HW1 : Hid (VAt Wf B 46 Y ∧ VAt Wf (B + 1) 46 ngZ.cells.toArray ∧ w.grownBy Wf none) := by
      obtain ⟨g1, g2, g3⟩ := HW
      exact ⟨hY ▸ g1, g2, g3⟩
    have HEB1 : Hid (Ending.returned (.tuple #[.agg (bareG x).cells.toArray, .bool (mayG x)]) = .returned (.tuple #[.agg Y, .bool true])) := by
      show _ = _
      rw [HE.out.1, HE.out.2, hY]
    rw [hY] at HY
    clear HW HE HEB HW0 hY
    go_wp2_with (first | refine wpList_load_row rfl 46 (.tmp 1) rfl B rfl 46 Y (0, 0) _ HW1.out.1 Try.underlying46 rfl HY.out.1 ?_ | refine wpList_store_row rfl 46 (.tmp 2) (.tmp 102) rfl (B + 1) Y rfl rfl 46 _ HW1.out.2.1 HY.out.1 HY.out.2.1 HY.out.2.2 ?_)
    refine bodyPost_ret (ret_rowT rfl _ _ (B + 1) Y _ rfl (VAt.setRow HW1.out.2.1 _) Try.underlying46 rfl HY.out.1) rfl ?_
    exact ⟨HEB1.out.symm, vgrown_setRow HW1.out.2.2 (B + 1) _ (.inr (by have := HB.out; omega))⟩
  · have CB := between_any x.of 1 12 W
    obtain ⟨vv, hvv⟩ : ∃ vv, x.of = vv := ⟨_, rfl⟩
    have HM : Hid (mayG x = inG vv 1 12) := by show mayG x = _; unfold mayG; rw [HK.out, hvv]; rfl
    rw [hvv] at CB c5
    clear hvv
    go_wp2_with fail
    refine CB.mono ?_
    rintro e w1 ⟨rfl, rfl⟩
    obtain ⟨bf, hbf⟩ : ∃ bf, inG vv 1 12 = bf := ⟨_, rfl⟩
    rw [hbf] at HM ⊢
    clear CB hbf
    go_upto_region 40 with fail
    have HW := (BW.set (z := ({ x with of := 0, size := 0 } : Ng)) (BW.set (z := ({ x with of := 0 } : Ng)) HW0.out HB.out 5 (.int .i64 0) rfl) HB.out 4 (.int .i64 0) rfl)
    obtain ⟨Yn, hYn⟩ : ∃ Yn, ({ x with of := 0, size := 0 } : Ng) = Yn := ⟨_, rfl⟩
    have HE : Hid (bareG x = Yn ∧ mayG x = bf) := ⟨by rw [← hYn]; unfold bareG; rw [HK.out]; rfl, HM.out⟩
    rw [hYn] at HW
    clear hYn HM
    generalize (w1.setCell ⟨B, 5, none⟩ (.int .i64 0)).setCell ⟨B, 4, none⟩ (.int .i64 0) = Wf at *
    have HY : Hid ((Try.prog.info? 46).map (·.size) = some Yn.cells.toArray.size ∧ ngZ.cells.toArray.size = Yn.cells.toArray.size ∧ Yn.cells.toArray.all (·.oneCell') = true) := ⟨ng_size _, rfl, ng_all _⟩
    obtain ⟨Y, hY⟩ : ∃ Y, Yn.cells.toArray = Y := ⟨_, rfl⟩
    have HW1 : Hid (VAt Wf B 46 Y ∧ VAt Wf (B + 1) 46 ngZ.cells.toArray ∧ w.grownBy Wf none) := by
      obtain ⟨g1, g2, g3⟩ := HW
      exact ⟨hY ▸ g1, g2, g3⟩
    have HEB1 : Hid (Ending.returned (.tuple #[.agg (bareG x).cells.toArray, .bool (mayG x)]) = .returned (.tuple #[.agg Y, .bool bf])) := by
      show _ = _
      rw [HE.out.1, HE.out.2, hY]
    rw [hY] at HY
    clear HW HE HEB HW0 hY
    go_wp2_with (first | refine wpList_load_row rfl 46 (.tmp 1) rfl B rfl 46 Y (0, 0) _ HW1.out.1 Try.underlying46 rfl HY.out.1 ?_ | refine wpList_store_row rfl 46 (.tmp 2) (.tmp 102) rfl (B + 1) Y rfl rfl 46 _ HW1.out.2.1 HY.out.1 HY.out.2.1 HY.out.2.2 ?_)
    refine bodyPost_ret (ret_rowT rfl _ _ (B + 1) Y _ rfl (VAt.setRow HW1.out.2.1 _) Try.underlying46 rfl HY.out.1) rfl ?_
    exact ⟨HEB1.out.symm, vgrown_setRow HW1.out.2.2 (B + 1) _ (.inr (by have := HB.out; omega))⟩
  · have CB := between_any x.op 1 10 W
    obtain ⟨vv, hvv⟩ : ∃ vv, x.op = vv := ⟨_, rfl⟩
    have HM : Hid (mayG x = inG vv 1 10) := by show mayG x = _; unfold mayG; rw [HK.out, hvv]; rfl
    rw [hvv] at CB c1
    clear hvv
    go_wp2_with fail
    refine CB.mono ?_
    rintro e w1 ⟨rfl, rfl⟩
    obtain ⟨bf, hbf⟩ : ∃ bf, inG vv 1 10 = bf := ⟨_, rfl⟩
    rw [hbf] at HM ⊢
    clear CB hbf
    go_upto_region 40 with fail
    have HW := (BW.set (z := ({ x with op := 0 } : Ng)) HW0.out HB.out 1 (.int .i64 0) rfl)
    obtain ⟨Yn, hYn⟩ : ∃ Yn, ({ x with op := 0 } : Ng) = Yn := ⟨_, rfl⟩
    have HE : Hid (bareG x = Yn ∧ mayG x = bf) := ⟨by rw [← hYn]; unfold bareG; rw [HK.out]; rfl, HM.out⟩
    rw [hYn] at HW
    clear hYn HM
    generalize w1.setCell ⟨B, 1, none⟩ (.int .i64 0) = Wf at *
    have HY : Hid ((Try.prog.info? 46).map (·.size) = some Yn.cells.toArray.size ∧ ngZ.cells.toArray.size = Yn.cells.toArray.size ∧ Yn.cells.toArray.all (·.oneCell') = true) := ⟨ng_size _, rfl, ng_all _⟩
    obtain ⟨Y, hY⟩ : ∃ Y, Yn.cells.toArray = Y := ⟨_, rfl⟩
    have HW1 : Hid (VAt Wf B 46 Y ∧ VAt Wf (B + 1) 46 ngZ.cells.toArray ∧ w.grownBy Wf none) := by
      obtain ⟨g1, g2, g3⟩ := HW
      exact ⟨hY ▸ g1, g2, g3⟩
    have HEB1 : Hid (Ending.returned (.tuple #[.agg (bareG x).cells.toArray, .bool (mayG x)]) = .returned (.tuple #[.agg Y, .bool bf])) := by
      show _ = _
      rw [HE.out.1, HE.out.2, hY]
    rw [hY] at HY
    clear HW HE HEB HW0 hY
    go_wp2_with (first | refine wpList_load_row rfl 46 (.tmp 1) rfl B rfl 46 Y (0, 0) _ HW1.out.1 Try.underlying46 rfl HY.out.1 ?_ | refine wpList_store_row rfl 46 (.tmp 2) (.tmp 102) rfl (B + 1) Y rfl rfl 46 _ HW1.out.2.1 HY.out.1 HY.out.2.1 HY.out.2.2 ?_)
    refine bodyPost_ret (ret_rowT rfl _ _ (B + 1) Y _ rfl (VAt.setRow HW1.out.2.1 _) Try.underlying46 rfl HY.out.1) rfl ?_
    exact ⟨HEB1.out.symm, vgrown_setRow HW1.out.2.2 (B + 1) _ (.inr (by have := HB.out; omega))⟩
  · have CB := between_any x.op 1 6 W
    obtain ⟨vv, hvv⟩ : ∃ vv, x.op = vv := ⟨_, rfl⟩
    have HM : Hid (mayG x = inG vv 1 6) := by show mayG x = _; unfold mayG; rw [HK.out, hvv]; rfl
    rw [hvv] at CB c1
    clear hvv
    go_wp2_with fail
    refine CB.mono ?_
    rintro e w1 ⟨rfl, rfl⟩
    obtain ⟨bf, hbf⟩ : ∃ bf, inG vv 1 6 = bf := ⟨_, rfl⟩
    rw [hbf] at HM ⊢
    clear CB hbf
    go_upto_region 40 with fail
    have HW := (BW.set (z := ({ x with op := 0 } : Ng)) HW0.out HB.out 1 (.int .i64 0) rfl)
    obtain ⟨Yn, hYn⟩ : ∃ Yn, ({ x with op := 0 } : Ng) = Yn := ⟨_, rfl⟩
    have HE : Hid (bareG x = Yn ∧ mayG x = bf) := ⟨by rw [← hYn]; unfold bareG; rw [HK.out]; rfl, HM.out⟩
    rw [hYn] at HW
    clear hYn HM
    generalize w1.setCell ⟨B, 1, none⟩ (.int .i64 0) = Wf at *
    have HY : Hid ((Try.prog.info? 46).map (·.size) = some Yn.cells.toArray.size ∧ ngZ.cells.toArray.size = Yn.cells.toArray.size ∧ Yn.cells.toArray.all (·.oneCell') = true) := ⟨ng_size _, rfl, ng_all _⟩
    obtain ⟨Y, hY⟩ : ∃ Y, Yn.cells.toArray = Y := ⟨_, rfl⟩
    have HW1 : Hid (VAt Wf B 46 Y ∧ VAt Wf (B + 1) 46 ngZ.cells.toArray ∧ w.grownBy Wf none) := by
      obtain ⟨g1, g2, g3⟩ := HW
      exact ⟨hY ▸ g1, g2, g3⟩
    have HEB1 : Hid (Ending.returned (.tuple #[.agg (bareG x).cells.toArray, .bool (mayG x)]) = .returned (.tuple #[.agg Y, .bool bf])) := by
      show _ = _
      rw [HE.out.1, HE.out.2, hY]
    rw [hY] at HY
    clear HW HE HEB HW0 hY
    go_wp2_with (first | refine wpList_load_row rfl 46 (.tmp 1) rfl B rfl 46 Y (0, 0) _ HW1.out.1 Try.underlying46 rfl HY.out.1 ?_ | refine wpList_store_row rfl 46 (.tmp 2) (.tmp 102) rfl (B + 1) Y rfl rfl 46 _ HW1.out.2.1 HY.out.1 HY.out.2.1 HY.out.2.2 ?_)
    refine bodyPost_ret (ret_rowT rfl _ _ (B + 1) Y _ rfl (VAt.setRow HW1.out.2.1 _) Try.underlying46 rfl HY.out.1) rfl ?_
    exact ⟨HEB1.out.symm, vgrown_setRow HW1.out.2.2 (B + 1) _ (.inr (by have := HB.out; omega))⟩
  · have CB := between_any x.side 1 2 W
    obtain ⟨vv, hvv⟩ : ∃ vv, x.side = vv := ⟨_, rfl⟩
    have HM : Hid (mayG x = inG vv 1 2) := by show mayG x = _; unfold mayG; rw [HK.out, hvv]; rfl
    rw [hvv] at CB c6
    clear hvv
    go_wp2_with fail
    refine CB.mono ?_
    rintro e w1 ⟨rfl, rfl⟩
    obtain ⟨bf, hbf⟩ : ∃ bf, inG vv 1 2 = bf := ⟨_, rfl⟩
    rw [hbf] at HM ⊢
    clear CB hbf
    go_upto_region 40 with fail
    have HW := (BW.set (z := ({ x with side := 0 } : Ng)) HW0.out HB.out 6 (.int .i64 0) rfl)
    obtain ⟨Yn, hYn⟩ : ∃ Yn, ({ x with side := 0 } : Ng) = Yn := ⟨_, rfl⟩
    have HE : Hid (bareG x = Yn ∧ mayG x = bf) := ⟨by rw [← hYn]; unfold bareG; rw [HK.out]; rfl, HM.out⟩
    rw [hYn] at HW
    clear hYn HM
    generalize w1.setCell ⟨B, 6, none⟩ (.int .i64 0) = Wf at *
    have HY : Hid ((Try.prog.info? 46).map (·.size) = some Yn.cells.toArray.size ∧ ngZ.cells.toArray.size = Yn.cells.toArray.size ∧ Yn.cells.toArray.all (·.oneCell') = true) := ⟨ng_size _, rfl, ng_all _⟩
    obtain ⟨Y, hY⟩ : ∃ Y, Yn.cells.toArray = Y := ⟨_, rfl⟩
    have HW1 : Hid (VAt Wf B 46 Y ∧ VAt Wf (B + 1) 46 ngZ.cells.toArray ∧ w.grownBy Wf none) := by
      obtain ⟨g1, g2, g3⟩ := HW
      exact ⟨hY ▸ g1, g2, g3⟩
    have HEB1 : Hid (Ending.returned (.tuple #[.agg (bareG x).cells.toArray, .bool (mayG x)]) = .returned (.tuple #[.agg Y, .bool bf])) := by
      show _ = _
      rw [HE.out.1, HE.out.2, hY]
    rw [hY] at HY
    clear HW HE HEB HW0 hY
    go_wp2_with (first | refine wpList_load_row rfl 46 (.tmp 1) rfl B rfl 46 Y (0, 0) _ HW1.out.1 Try.underlying46 rfl HY.out.1 ?_ | refine wpList_store_row rfl 46 (.tmp 2) (.tmp 102) rfl (B + 1) Y rfl rfl 46 _ HW1.out.2.1 HY.out.1 HY.out.2.1 HY.out.2.2 ?_)
    refine bodyPost_ret (ret_rowT rfl _ _ (B + 1) Y _ rfl (VAt.setRow HW1.out.2.1 _) Try.underlying46 rfl HY.out.1) rfl ?_
    exact ⟨HEB1.out.symm, vgrown_setRow HW1.out.2.2 (B + 1) _ (.inr (by have := HB.out; omega))⟩
  · have CB := between_any x.of 2 13 W
    obtain ⟨vv, hvv⟩ : ∃ vv, x.of = vv := ⟨_, rfl⟩
    have HM : Hid (mayG x = inG vv 2 13) := by show mayG x = _; unfold mayG; rw [HK.out, hvv]; rfl
    rw [hvv] at CB c5
    clear hvv
    go_wp2_with fail
    refine CB.mono ?_
    rintro e w1 ⟨rfl, rfl⟩
    obtain ⟨bf, hbf⟩ : ∃ bf, inG vv 2 13 = bf := ⟨_, rfl⟩
    rw [hbf] at HM ⊢
    clear CB hbf
    go_upto_region 40 with fail
    have HW := (BW.set (z := ({ x with of := 0 } : Ng)) HW0.out HB.out 5 (.int .i64 0) rfl)
    obtain ⟨Yn, hYn⟩ : ∃ Yn, ({ x with of := 0 } : Ng) = Yn := ⟨_, rfl⟩
    have HE : Hid (bareG x = Yn ∧ mayG x = bf) := ⟨by rw [← hYn]; unfold bareG; rw [HK.out]; rfl, HM.out⟩
    rw [hYn] at HW
    clear hYn HM
    generalize w1.setCell ⟨B, 5, none⟩ (.int .i64 0) = Wf at *
    have HY : Hid ((Try.prog.info? 46).map (·.size) = some Yn.cells.toArray.size ∧ ngZ.cells.toArray.size = Yn.cells.toArray.size ∧ Yn.cells.toArray.all (·.oneCell') = true) := ⟨ng_size _, rfl, ng_all _⟩
    obtain ⟨Y, hY⟩ : ∃ Y, Yn.cells.toArray = Y := ⟨_, rfl⟩
    have HW1 : Hid (VAt Wf B 46 Y ∧ VAt Wf (B + 1) 46 ngZ.cells.toArray ∧ w.grownBy Wf none) := by
      obtain ⟨g1, g2, g3⟩ := HW
      exact ⟨hY ▸ g1, g2, g3⟩
    have HEB1 : Hid (Ending.returned (.tuple #[.agg (bareG x).cells.toArray, .bool (mayG x)]) = .returned (.tuple #[.agg Y, .bool bf])) := by
      show _ = _
      rw [HE.out.1, HE.out.2, hY]
    rw [hY] at HY
    clear HW HE HEB HW0 hY
    go_wp2_with (first | refine wpList_load_row rfl 46 (.tmp 1) rfl B rfl 46 Y (0, 0) _ HW1.out.1 Try.underlying46 rfl HY.out.1 ?_ | refine wpList_store_row rfl 46 (.tmp 2) (.tmp 102) rfl (B + 1) Y rfl rfl 46 _ HW1.out.2.1 HY.out.1 HY.out.2.1 HY.out.2.2 ?_)
    refine bodyPost_ret (ret_rowT rfl _ _ (B + 1) Y _ rfl (VAt.setRow HW1.out.2.1 _) Try.underlying46 rfl HY.out.1) rfl ?_
    exact ⟨HEB1.out.symm, vgrown_setRow HW1.out.2.2 (B + 1) _ (.inr (by have := HB.out; omega))⟩
  · obtain ⟨bf, hbf⟩ : ∃ bf, true = bf := ⟨_, rfl⟩
    have HM : Hid (mayG x = bf) := by show mayG x = _; rw [← hbf]; unfold mayG; rw [HK.out]; rfl
    subst hbf
    go_upto_region 40 with fail
    have HW := (BW.set (z := ({ x with n := 0 } : Ng)) HW0.out HB.out 2 (.int .u32 0) rfl)
    obtain ⟨Yn, hYn⟩ : ∃ Yn, ({ x with n := 0 } : Ng) = Yn := ⟨_, rfl⟩
    have HE : Hid (bareG x = Yn ∧ mayG x = true) := ⟨by rw [← hYn]; unfold bareG; rw [HK.out]; rfl, HM.out⟩
    rw [hYn] at HW
    clear hYn HM
    generalize W.setCell ⟨B, 2, none⟩ (.int .u32 0) = Wf at *
    have HY : Hid ((Try.prog.info? 46).map (·.size) = some Yn.cells.toArray.size ∧ ngZ.cells.toArray.size = Yn.cells.toArray.size ∧ Yn.cells.toArray.all (·.oneCell') = true) := ⟨ng_size _, rfl, ng_all _⟩
    obtain ⟨Y, hY⟩ : ∃ Y, Yn.cells.toArray = Y := ⟨_, rfl⟩
    have HW1 : Hid (VAt Wf B 46 Y ∧ VAt Wf (B + 1) 46 ngZ.cells.toArray ∧ w.grownBy Wf none) := by
      obtain ⟨g1, g2, g3⟩ := HW
      exact ⟨hY ▸ g1, g2, g3⟩
    have HEB1 : Hid (Ending.returned (.tuple #[.agg (bareG x).cells.toArray, .bool (mayG x)]) = .returned (.tuple #[.agg Y, .bool true])) := by
      show _ = _
      rw [HE.out.1, HE.out.2, hY]
    rw [hY] at HY
    clear HW HE HEB HW0 hY
    go_wp2_with (first | refine wpList_load_row rfl 46 (.tmp 1) rfl B rfl 46 Y (0, 0) _ HW1.out.1 Try.underlying46 rfl HY.out.1 ?_ | refine wpList_store_row rfl 46 (.tmp 2) (.tmp 102) rfl (B + 1) Y rfl rfl 46 _ HW1.out.2.1 HY.out.1 HY.out.2.1 HY.out.2.2 ?_)
    refine bodyPost_ret (ret_rowT rfl _ _ (B + 1) Y _ rfl (VAt.setRow HW1.out.2.1 _) Try.underlying46 rfl HY.out.1) rfl ?_
    exact ⟨HEB1.out.symm, vgrown_setRow HW1.out.2.2 (B + 1) _ (.inr (by have := HB.out; omega))⟩
  · have CB := between_any x.of 2 3 W
    obtain ⟨vv, hvv⟩ : ∃ vv, x.of = vv := ⟨_, rfl⟩
    have HM : Hid (mayG x = inG vv 2 3) := by show mayG x = _; unfold mayG; rw [HK.out, hvv]; rfl
    rw [hvv] at CB c5
    clear hvv
    go_wp2_with fail
    refine CB.mono ?_
    rintro e w1 ⟨rfl, rfl⟩
    obtain ⟨bf, hbf⟩ : ∃ bf, inG vv 2 3 = bf := ⟨_, rfl⟩
    rw [hbf] at HM ⊢
    clear CB hbf
    go_upto_region 40 with fail
    have HW := (BW.set (z := ({ x with of := 0, n := 0 } : Ng)) (BW.set (z := ({ x with of := 0 } : Ng)) HW0.out HB.out 5 (.int .i64 0) rfl) HB.out 2 (.int .u32 0) rfl)
    obtain ⟨Yn, hYn⟩ : ∃ Yn, ({ x with of := 0, n := 0 } : Ng) = Yn := ⟨_, rfl⟩
    have HE : Hid (bareG x = Yn ∧ mayG x = bf) := ⟨by rw [← hYn]; unfold bareG; rw [HK.out]; rfl, HM.out⟩
    rw [hYn] at HW
    clear hYn HM
    generalize (w1.setCell ⟨B, 5, none⟩ (.int .i64 0)).setCell ⟨B, 2, none⟩ (.int .u32 0) = Wf at *
    have HY : Hid ((Try.prog.info? 46).map (·.size) = some Yn.cells.toArray.size ∧ ngZ.cells.toArray.size = Yn.cells.toArray.size ∧ Yn.cells.toArray.all (·.oneCell') = true) := ⟨ng_size _, rfl, ng_all _⟩
    obtain ⟨Y, hY⟩ : ∃ Y, Yn.cells.toArray = Y := ⟨_, rfl⟩
    have HW1 : Hid (VAt Wf B 46 Y ∧ VAt Wf (B + 1) 46 ngZ.cells.toArray ∧ w.grownBy Wf none) := by
      obtain ⟨g1, g2, g3⟩ := HW
      exact ⟨hY ▸ g1, g2, g3⟩
    have HEB1 : Hid (Ending.returned (.tuple #[.agg (bareG x).cells.toArray, .bool (mayG x)]) = .returned (.tuple #[.agg Y, .bool bf])) := by
      show _ = _
      rw [HE.out.1, HE.out.2, hY]
    rw [hY] at HY
    clear HW HE HEB HW0 hY
    go_wp2_with (first | refine wpList_load_row rfl 46 (.tmp 1) rfl B rfl 46 Y (0, 0) _ HW1.out.1 Try.underlying46 rfl HY.out.1 ?_ | refine wpList_store_row rfl 46 (.tmp 2) (.tmp 102) rfl (B + 1) Y rfl rfl 46 _ HW1.out.2.1 HY.out.1 HY.out.2.1 HY.out.2.2 ?_)
    refine bodyPost_ret (ret_rowT rfl _ _ (B + 1) Y _ rfl (VAt.setRow HW1.out.2.1 _) Try.underlying46 rfl HY.out.1) rfl ?_
    exact ⟨HEB1.out.symm, vgrown_setRow HW1.out.2.2 (B + 1) _ (.inr (by have := HB.out; omega))⟩

end Go.Proofs.Ytgoiblnddfggbaa
