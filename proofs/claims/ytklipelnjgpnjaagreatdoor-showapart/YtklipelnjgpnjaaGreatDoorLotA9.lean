import Derived.Test.YtklipelnjgpnjaaGreatDoorLotA8
import Derived.Deep.MidRow
import Derived.BigQuiet
namespace Go.Proofs.YtklipelnjgpnjaaGreatDoor
open Go.RowKit
set_option maxRecDepth 100000
theorem box_ng (x : Ng) (W : World) : (Instr.box 43 (.agg x.cells.toArray)).run Tryz.prog W = .ok (.pointer (some ⟨W.heap.size, 0, none⟩)) (W.alloc (.cells x.cells.toArray 43)) := by kernel_rfl
theorem ng_size (x : Ng) : (Tryz.prog.info? 43).map (·.size) = some x.cells.toArray.size := size43
theorem ng_all (x : Ng) : x.cells.toArray.all (·.oneCell') = true := by simp [Ng.cells, adg, Value.oneCell']
theorem adg_map (x : Ng) : (adgs x).map bv = [adg x 0, adg x 1, adg x 2, adg x 3, adg x 4, adg x 5, adg x 6, adg x 7, adg x 8, adg x 9, adg x 10, adg x 11, adg x 12, adg x 13, adg x 14, adg x 15] := rfl
def NB (w : World) (B : Nat) (x : Ng) : Prop := VAt w B 43 x.cells.toArray
section
variable {w w' : World} {B : Nat} {x : Ng}
theorem NB.vat (h : NB w B x) : VAt w B 43 x.cells.toArray := h
theorem NB.kept (h : NB w B x) (K : w.grownBy w' none) : NB w' B x := VAt.kept h K
theorem NB.kind (h : NB w B x) : w.cell? ⟨B, 0, none⟩ = some (.int .i64 x.kind) := VAt.cell h 0
theorem NB.op (h : NB w B x) : w.cell? ⟨B, 1, none⟩ = some (.int .i64 x.op) := VAt.cell h 1
theorem NB.n (h : NB w B x) : w.cell? ⟨B, 2, none⟩ = some (.int .u32 (x.n : Int)) := VAt.cell h 2
theorem NB.m (h : NB w B x) : w.cell? ⟨B, 3, none⟩ = some (.int .u32 (x.m : Int)) := VAt.cell h 3
theorem NB.size (h : NB w B x) : w.cell? ⟨B, 4, none⟩ = some (.int .i64 x.size) := VAt.cell h 4
theorem NB.of (h : NB w B x) : w.cell? ⟨B, 5, none⟩ = some (.int .i64 x.of) := VAt.cell h 5
theorem NB.side (h : NB w B x) : w.cell? ⟨B, 6, none⟩ = some (.int .i64 x.side) := VAt.cell h 6
theorem NB.bits (h : NB w B x) : w.cell? ⟨B, 23, none⟩ = some (.int .i64 x.bits) := VAt.cell h 23
theorem NB.addr (h : NB w B x) : w.rangeAt B 7 ((adgs x).map bv) := by
 intro j v hv
 rw [VAt.cell h (7 + j)]
 have hj : j < 16 := (List.getElem?_eq_some_iff.1 hv).1
 have : j = 0 ∨ j = 1 ∨ j = 2 ∨ j = 3 ∨ j = 4 ∨ j = 5 ∨ j = 6 ∨ j = 7 ∨ j = 8 ∨ j = 9 ∨ j = 10 ∨ j = 11 ∨ j = 12 ∨ j = 13 ∨ j = 14 ∨ j = 15 := by omega
 rcases this with rfl | rfl | rfl | rfl | rfl | rfl | rfl | rfl | rfl | rfl | rfl | rfl | rfl | rfl | rfl | rfl <;> exact hv
theorem NB.alloc (w : World) (x : Ng) : NB (w.alloc (.cells x.cells.toArray 43)) w.heap.size x := VAt.alloc _ _ _
end
def ngZ : Ng := ⟨0, 0, 0, 0, 0, 0, 0, zeros 16, 0⟩
theorem size_arr16 (x : Ng) : (Tryz.prog.info? 41).map (·.size) = some ((adgs x).map bv).length := by kernel_rfl
theorem two_ng (w : World) (x : Ng) : NB ((w.alloc (.cells x.cells.toArray 43)).alloc (.cells ngZ.cells.toArray 43)) w.heap.size x ∧ NB ((w.alloc (.cells x.cells.toArray 43)).alloc (.cells ngZ.cells.toArray 43)) (w.heap.size + 1) ngZ ∧ w.grownBy ((w.alloc (.cells x.cells.toArray 43)).alloc (.cells ngZ.cells.toArray 43)) none := by
 have K := World.grownBy_alloc (w.alloc (.cells x.cells.toArray 43)) (.cells ngZ.cells.toArray 43) none
 have h := NB.alloc (w.alloc (.cells x.cells.toArray 43)) ngZ
 rw [show (w.alloc (.cells x.cells.toArray 43)).heap.size = w.heap.size + 1 by simp] at h
 exact ⟨(NB.alloc w x).kept K, h, grown_trans (World.grownBy_alloc w _ none) K⟩
set_option maxHeartbeats 1000000 in
theorem usesNothing_any (x : Ng) (w : World) (h : x.kind = 2 ∨ x.kind = 5 ∨ x.kind = 7 ∨ x.kind = 8 ∨ x.kind = 9) : Calls Tryz.prog 52 #[.agg x.cells.toArray] w fun e w' => e = .returned (.agg (useG x).cells.toArray) ∧ w.grownBy w' none := by
 have hu : useG x = (⟨x.kind, 0, 0, 0, 0, 0, 0, zeros 16, 0⟩ : Ng) := by
  unfold useG
  repeat' split
  all_goals first | rfl | omega
 rw [hu]
 clear hu h
 have HBX := box_ng x
 obtain ⟨h1, h2, h3⟩ := two_ng w x
 have HZ : Hid ((Tryz.prog.info? 43).map (·.size) = some ((⟨x.kind, 0, 0, 0, 0, 0, 0, zeros 16, 0⟩ : Ng)).cells.toArray.size ∧ ngZ.cells.toArray.size = ((⟨x.kind, 0, 0, 0, 0, 0, 0, zeros 16, 0⟩ : Ng)).cells.toArray.size ∧ ((⟨x.kind, 0, 0, 0, 0, 0, 0, zeros 16, 0⟩ : Ng)).cells.toArray.all (·.oneCell') = true) := ⟨ng_size _, rfl, ng_all _⟩
 have c0 := h1.kind
 obtain ⟨X, hX⟩ : ∃ X, x.cells.toArray = X := ⟨_, rfl⟩
 rw [hX] at HBX ⊢
 go_enter Tryz.func52, Tryz.ntmps52
 go_upto_region 1 with fail
 rw [← hX] at *
 rw [show #[.int .i64 0, .int .i64 0, .int .u32 0, .int .u32 0, .int .i64 0, .int .i64 0, .int .i64 0, .int .u8 0, .int .u8 0, .int .u8 0, .int .u8 0, .int .u8 0, .int .u8 0, .int .u8 0, .int .u8 0, .int .u8 0, .int .u8 0, .int .u8 0, .int .u8 0, .int .u8 0, .int .u8 0, .int .u8 0, .int .u8 0, .int .i64 0] = ngZ.cells.toArray from rfl]
 generalize (w.alloc (.cells x.cells.toArray 43)).alloc (.cells ngZ.cells.toArray 43) = w2 at *
 obtain ⟨R, hR⟩ : ∃ R, w.heap.size + 1 = R := ⟨_, rfl⟩
 have HG : Hid (w.grownBy (w2.setRow R ((⟨x.kind, 0, 0, 0, 0, 0, 0, zeros 16, 0⟩ : Ng)).cells.toArray) none) := vgrown_setRow h3 R _ (.inr (by omega))
 rw [hR] at h2 ⊢
 have V2 := h2.vat
 have HV : Hid (VAt w2 R 43 ngZ.cells.toArray) := V2
 clear h1 h2 hR HBX hX X h3
 generalize w.heap.size = B at *
 go_wp2_with (refine wpList_store_row rfl 43 (.tmp 2) (.tmp 5) rfl R ((⟨x.kind, 0, 0, 0, 0, 0, 0, zeros 16, 0⟩ : Ng)).cells.toArray rfl rfl 43 _ V2 HZ.out.1 HZ.out.2.1 HZ.out.2.2 ?_)
 refine bodyPost_ret (results_cell_row rfl _ _ R 43 _ (0, 0) _ rfl (HV.out.setRow _) Tryz.underlying43 rfl HZ.out.1) rfl ?_
 exact ⟨rfl, HG.out⟩
set_option maxHeartbeats 1000000 in
theorem usesN_any (x : Ng) (w : World) (h : x.kind = 1 ∨ x.kind = 12) : Calls Tryz.prog 48 #[.agg x.cells.toArray] w fun e w' => e = .returned (.agg (useG x).cells.toArray) ∧ w.grownBy w' none := by
 have hu : useG x = (⟨x.kind, 0, x.n, 0, 0, 0, 0, zeros 16, 0⟩ : Ng) := by
  unfold useG
  repeat' split
  all_goals first | rfl | omega
 rw [hu]
 clear hu h
 have HBX := box_ng x
 obtain ⟨h1, h2, h3⟩ := two_ng w x
 have HZ : Hid ((Tryz.prog.info? 43).map (·.size) = some ((⟨x.kind, 0, x.n, 0, 0, 0, 0, zeros 16, 0⟩ : Ng)).cells.toArray.size ∧ ngZ.cells.toArray.size = ((⟨x.kind, 0, x.n, 0, 0, 0, 0, zeros 16, 0⟩ : Ng)).cells.toArray.size ∧ ((⟨x.kind, 0, x.n, 0, 0, 0, 0, zeros 16, 0⟩ : Ng)).cells.toArray.all (·.oneCell') = true) := ⟨ng_size _, rfl, ng_all _⟩
 have c0 := h1.kind
 have c2 := h1.n
 obtain ⟨X, hX⟩ : ∃ X, x.cells.toArray = X := ⟨_, rfl⟩
 rw [hX] at HBX ⊢
 go_enter Tryz.func48, Tryz.ntmps48
 go_upto_region 1 with fail
 rw [← hX] at *
 rw [show #[.int .i64 0, .int .i64 0, .int .u32 0, .int .u32 0, .int .i64 0, .int .i64 0, .int .i64 0, .int .u8 0, .int .u8 0, .int .u8 0, .int .u8 0, .int .u8 0, .int .u8 0, .int .u8 0, .int .u8 0, .int .u8 0, .int .u8 0, .int .u8 0, .int .u8 0, .int .u8 0, .int .u8 0, .int .u8 0, .int .u8 0, .int .i64 0] = ngZ.cells.toArray from rfl]
 generalize (w.alloc (.cells x.cells.toArray 43)).alloc (.cells ngZ.cells.toArray 43) = w2 at *
 obtain ⟨R, hR⟩ : ∃ R, w.heap.size + 1 = R := ⟨_, rfl⟩
 have HG : Hid (w.grownBy (w2.setRow R ((⟨x.kind, 0, x.n, 0, 0, 0, 0, zeros 16, 0⟩ : Ng)).cells.toArray) none) := vgrown_setRow h3 R _ (.inr (by omega))
 rw [hR] at h2 ⊢
 have V2 := h2.vat
 have HV : Hid (VAt w2 R 43 ngZ.cells.toArray) := V2
 clear h1 h2 hR HBX hX X h3
 generalize w.heap.size = B at *
 go_wp2_with (refine wpList_store_row rfl 43 (.tmp 2) (.tmp 7) rfl R ((⟨x.kind, 0, x.n, 0, 0, 0, 0, zeros 16, 0⟩ : Ng)).cells.toArray rfl rfl 43 _ V2 HZ.out.1 HZ.out.2.1 HZ.out.2.2 ?_)
 refine bodyPost_ret (results_cell_row rfl _ _ R 43 _ (0, 0) _ rfl (HV.out.setRow _) Tryz.underlying43 rfl HZ.out.1) rfl ?_
 exact ⟨rfl, HG.out⟩
set_option maxHeartbeats 1000000 in
theorem usesOp_any (x : Ng) (w : World) (h : x.kind = 4 ∨ x.kind = 6) : Calls Tryz.prog 57 #[.agg x.cells.toArray] w fun e w' => e = .returned (.agg (useG x).cells.toArray) ∧ w.grownBy w' none := by
 have hu : useG x = (⟨x.kind, x.op, 0, 0, 0, 0, 0, zeros 16, 0⟩ : Ng) := by
  unfold useG
  repeat' split
  all_goals first | rfl | omega
 rw [hu]
 clear hu h
 have HBX := box_ng x
 obtain ⟨h1, h2, h3⟩ := two_ng w x
 have HZ : Hid ((Tryz.prog.info? 43).map (·.size) = some ((⟨x.kind, x.op, 0, 0, 0, 0, 0, zeros 16, 0⟩ : Ng)).cells.toArray.size ∧ ngZ.cells.toArray.size = ((⟨x.kind, x.op, 0, 0, 0, 0, 0, zeros 16, 0⟩ : Ng)).cells.toArray.size ∧ ((⟨x.kind, x.op, 0, 0, 0, 0, 0, zeros 16, 0⟩ : Ng)).cells.toArray.all (·.oneCell') = true) := ⟨ng_size _, rfl, ng_all _⟩
 have c0 := h1.kind
 have c1 := h1.op
 obtain ⟨X, hX⟩ : ∃ X, x.cells.toArray = X := ⟨_, rfl⟩
 rw [hX] at HBX ⊢
 go_enter Tryz.func57, Tryz.ntmps57
 go_upto_region 1 with fail
 rw [← hX] at *
 rw [show #[.int .i64 0, .int .i64 0, .int .u32 0, .int .u32 0, .int .i64 0, .int .i64 0, .int .i64 0, .int .u8 0, .int .u8 0, .int .u8 0, .int .u8 0, .int .u8 0, .int .u8 0, .int .u8 0, .int .u8 0, .int .u8 0, .int .u8 0, .int .u8 0, .int .u8 0, .int .u8 0, .int .u8 0, .int .u8 0, .int .u8 0, .int .i64 0] = ngZ.cells.toArray from rfl]
 generalize (w.alloc (.cells x.cells.toArray 43)).alloc (.cells ngZ.cells.toArray 43) = w2 at *
 obtain ⟨R, hR⟩ : ∃ R, w.heap.size + 1 = R := ⟨_, rfl⟩
 have HG : Hid (w.grownBy (w2.setRow R ((⟨x.kind, x.op, 0, 0, 0, 0, 0, zeros 16, 0⟩ : Ng)).cells.toArray) none) := vgrown_setRow h3 R _ (.inr (by omega))
 rw [hR] at h2 ⊢
 have V2 := h2.vat
 have HV : Hid (VAt w2 R 43 ngZ.cells.toArray) := V2
 clear h1 h2 hR HBX hX X h3
 generalize w.heap.size = B at *
 go_wp2_with (refine wpList_store_row rfl 43 (.tmp 2) (.tmp 7) rfl R ((⟨x.kind, x.op, 0, 0, 0, 0, 0, zeros 16, 0⟩ : Ng)).cells.toArray rfl rfl 43 _ V2 HZ.out.1 HZ.out.2.1 HZ.out.2.2 ?_)
 refine bodyPost_ret (results_cell_row rfl _ _ R 43 _ (0, 0) _ rfl (HV.out.setRow _) Tryz.underlying43 rfl HZ.out.1) rfl ?_
 exact ⟨rfl, HG.out⟩
set_option maxHeartbeats 1000000 in
theorem usesOf_any (x : Ng) (w : World) (h : x.kind = 11) : Calls Tryz.prog 64 #[.agg x.cells.toArray] w fun e w' => e = .returned (.agg (useG x).cells.toArray) ∧ w.grownBy w' none := by
 have hu : useG x = (⟨x.kind, 0, 0, 0, 0, x.of, 0, zeros 16, 0⟩ : Ng) := by
  unfold useG
  repeat' split
  all_goals first | rfl | omega
 rw [hu]
 clear hu h
 have HBX := box_ng x
 obtain ⟨h1, h2, h3⟩ := two_ng w x
 have HZ : Hid ((Tryz.prog.info? 43).map (·.size) = some ((⟨x.kind, 0, 0, 0, 0, x.of, 0, zeros 16, 0⟩ : Ng)).cells.toArray.size ∧ ngZ.cells.toArray.size = ((⟨x.kind, 0, 0, 0, 0, x.of, 0, zeros 16, 0⟩ : Ng)).cells.toArray.size ∧ ((⟨x.kind, 0, 0, 0, 0, x.of, 0, zeros 16, 0⟩ : Ng)).cells.toArray.all (·.oneCell') = true) := ⟨ng_size _, rfl, ng_all _⟩
 have c0 := h1.kind
 have c5 := h1.of
 obtain ⟨X, hX⟩ : ∃ X, x.cells.toArray = X := ⟨_, rfl⟩
 rw [hX] at HBX ⊢
 go_enter Tryz.func64, Tryz.ntmps64
 go_upto_region 1 with fail
 rw [← hX] at *
 rw [show #[.int .i64 0, .int .i64 0, .int .u32 0, .int .u32 0, .int .i64 0, .int .i64 0, .int .i64 0, .int .u8 0, .int .u8 0, .int .u8 0, .int .u8 0, .int .u8 0, .int .u8 0, .int .u8 0, .int .u8 0, .int .u8 0, .int .u8 0, .int .u8 0, .int .u8 0, .int .u8 0, .int .u8 0, .int .u8 0, .int .u8 0, .int .i64 0] = ngZ.cells.toArray from rfl]
 generalize (w.alloc (.cells x.cells.toArray 43)).alloc (.cells ngZ.cells.toArray 43) = w2 at *
 obtain ⟨R, hR⟩ : ∃ R, w.heap.size + 1 = R := ⟨_, rfl⟩
 have HG : Hid (w.grownBy (w2.setRow R ((⟨x.kind, 0, 0, 0, 0, x.of, 0, zeros 16, 0⟩ : Ng)).cells.toArray) none) := vgrown_setRow h3 R _ (.inr (by omega))
 rw [hR] at h2 ⊢
 have V2 := h2.vat
 have HV : Hid (VAt w2 R 43 ngZ.cells.toArray) := V2
 clear h1 h2 hR HBX hX X h3
 generalize w.heap.size = B at *
 go_wp2_with (refine wpList_store_row rfl 43 (.tmp 2) (.tmp 7) rfl R ((⟨x.kind, 0, 0, 0, 0, x.of, 0, zeros 16, 0⟩ : Ng)).cells.toArray rfl rfl 43 _ V2 HZ.out.1 HZ.out.2.1 HZ.out.2.2 ?_)
 refine bodyPost_ret (results_cell_row rfl _ _ R 43 _ (0, 0) _ rfl (HV.out.setRow _) Tryz.underlying43 rfl HZ.out.1) rfl ?_
 exact ⟨rfl, HG.out⟩
set_option maxHeartbeats 1000000 in
theorem usesSide_any (x : Ng) (w : World) (h : x.kind = 10) : Calls Tryz.prog 62 #[.agg x.cells.toArray] w fun e w' => e = .returned (.agg (useG x).cells.toArray) ∧ w.grownBy w' none := by
 have hu : useG x = (⟨x.kind, 0, 0, 0, 0, 0, x.side, zeros 16, 0⟩ : Ng) := by
  unfold useG
  repeat' split
  all_goals first | rfl | omega
 rw [hu]
 clear hu h
 have HBX := box_ng x
 obtain ⟨h1, h2, h3⟩ := two_ng w x
 have HZ : Hid ((Tryz.prog.info? 43).map (·.size) = some ((⟨x.kind, 0, 0, 0, 0, 0, x.side, zeros 16, 0⟩ : Ng)).cells.toArray.size ∧ ngZ.cells.toArray.size = ((⟨x.kind, 0, 0, 0, 0, 0, x.side, zeros 16, 0⟩ : Ng)).cells.toArray.size ∧ ((⟨x.kind, 0, 0, 0, 0, 0, x.side, zeros 16, 0⟩ : Ng)).cells.toArray.all (·.oneCell') = true) := ⟨ng_size _, rfl, ng_all _⟩
 have c0 := h1.kind
 have c6 := h1.side
 obtain ⟨X, hX⟩ : ∃ X, x.cells.toArray = X := ⟨_, rfl⟩
 rw [hX] at HBX ⊢
 go_enter Tryz.func62, Tryz.ntmps62
 go_upto_region 1 with fail
 rw [← hX] at *
 rw [show #[.int .i64 0, .int .i64 0, .int .u32 0, .int .u32 0, .int .i64 0, .int .i64 0, .int .i64 0, .int .u8 0, .int .u8 0, .int .u8 0, .int .u8 0, .int .u8 0, .int .u8 0, .int .u8 0, .int .u8 0, .int .u8 0, .int .u8 0, .int .u8 0, .int .u8 0, .int .u8 0, .int .u8 0, .int .u8 0, .int .u8 0, .int .i64 0] = ngZ.cells.toArray from rfl]
 generalize (w.alloc (.cells x.cells.toArray 43)).alloc (.cells ngZ.cells.toArray 43) = w2 at *
 obtain ⟨R, hR⟩ : ∃ R, w.heap.size + 1 = R := ⟨_, rfl⟩
 have HG : Hid (w.grownBy (w2.setRow R ((⟨x.kind, 0, 0, 0, 0, 0, x.side, zeros 16, 0⟩ : Ng)).cells.toArray) none) := vgrown_setRow h3 R _ (.inr (by omega))
 rw [hR] at h2 ⊢
 have V2 := h2.vat
 have HV : Hid (VAt w2 R 43 ngZ.cells.toArray) := V2
 clear h1 h2 hR HBX hX X h3
 generalize w.heap.size = B at *
 go_wp2_with (refine wpList_store_row rfl 43 (.tmp 2) (.tmp 7) rfl R ((⟨x.kind, 0, 0, 0, 0, 0, x.side, zeros 16, 0⟩ : Ng)).cells.toArray rfl rfl 43 _ V2 HZ.out.1 HZ.out.2.1 HZ.out.2.2 ?_)
 refine bodyPost_ret (results_cell_row rfl _ _ R 43 _ (0, 0) _ rfl (HV.out.setRow _) Tryz.underlying43 rfl HZ.out.1) rfl ?_
 exact ⟨rfl, HG.out⟩
set_option maxHeartbeats 1000000 in
theorem usesOfAndN_any (x : Ng) (w : World) (h : x.kind = 13) : Calls Tryz.prog 67 #[.agg x.cells.toArray] w fun e w' => e = .returned (.agg (useG x).cells.toArray) ∧ w.grownBy w' none := by
 have hu : useG x = (⟨x.kind, 0, x.n, 0, 0, x.of, 0, zeros 16, 0⟩ : Ng) := by
  unfold useG
  repeat' split
  all_goals first | rfl | omega
 rw [hu]
 clear hu h
 have HBX := box_ng x
 obtain ⟨h1, h2, h3⟩ := two_ng w x
 have HZ : Hid ((Tryz.prog.info? 43).map (·.size) = some ((⟨x.kind, 0, x.n, 0, 0, x.of, 0, zeros 16, 0⟩ : Ng)).cells.toArray.size ∧ ngZ.cells.toArray.size = ((⟨x.kind, 0, x.n, 0, 0, x.of, 0, zeros 16, 0⟩ : Ng)).cells.toArray.size ∧ ((⟨x.kind, 0, x.n, 0, 0, x.of, 0, zeros 16, 0⟩ : Ng)).cells.toArray.all (·.oneCell') = true) := ⟨ng_size _, rfl, ng_all _⟩
 have c0 := h1.kind
 have c5 := h1.of
 have c2 := h1.n
 obtain ⟨X, hX⟩ : ∃ X, x.cells.toArray = X := ⟨_, rfl⟩
 rw [hX] at HBX ⊢
 go_enter Tryz.func67, Tryz.ntmps67
 go_upto_region 1 with fail
 rw [← hX] at *
 rw [show #[.int .i64 0, .int .i64 0, .int .u32 0, .int .u32 0, .int .i64 0, .int .i64 0, .int .i64 0, .int .u8 0, .int .u8 0, .int .u8 0, .int .u8 0, .int .u8 0, .int .u8 0, .int .u8 0, .int .u8 0, .int .u8 0, .int .u8 0, .int .u8 0, .int .u8 0, .int .u8 0, .int .u8 0, .int .u8 0, .int .u8 0, .int .i64 0] = ngZ.cells.toArray from rfl]
 generalize (w.alloc (.cells x.cells.toArray 43)).alloc (.cells ngZ.cells.toArray 43) = w2 at *
 obtain ⟨R, hR⟩ : ∃ R, w.heap.size + 1 = R := ⟨_, rfl⟩
 have HG : Hid (w.grownBy (w2.setRow R ((⟨x.kind, 0, x.n, 0, 0, x.of, 0, zeros 16, 0⟩ : Ng)).cells.toArray) none) := vgrown_setRow h3 R _ (.inr (by omega))
 rw [hR] at h2 ⊢
 have V2 := h2.vat
 have HV : Hid (VAt w2 R 43 ngZ.cells.toArray) := V2
 clear h1 h2 hR HBX hX X h3
 generalize w.heap.size = B at *
 go_wp2_with (refine wpList_store_row rfl 43 (.tmp 2) (.tmp 9) rfl R ((⟨x.kind, 0, x.n, 0, 0, x.of, 0, zeros 16, 0⟩ : Ng)).cells.toArray rfl rfl 43 _ V2 HZ.out.1 HZ.out.2.1 HZ.out.2.2 ?_)
 refine bodyPost_ret (results_cell_row rfl _ _ R 43 _ (0, 0) _ rfl (HV.out.setRow _) Tryz.underlying43 rfl HZ.out.1) rfl ?_
 exact ⟨rfl, HG.out⟩
set_option maxHeartbeats 1000000 in
theorem usesOfAndSize_any (x : Ng) (w : World) (h : x.kind = 3) : Calls Tryz.prog 54 #[.agg x.cells.toArray] w fun e w' => e = .returned (.agg (useG x).cells.toArray) ∧ w.grownBy w' none := by
 have hu : useG x = (⟨x.kind, 0, 0, 0, x.size, x.of, 0, zeros 16, 0⟩ : Ng) := by
  unfold useG
  repeat' split
  all_goals first | rfl | omega
 rw [hu]
 clear hu h
 have HBX := box_ng x
 obtain ⟨h1, h2, h3⟩ := two_ng w x
 have HZ : Hid ((Tryz.prog.info? 43).map (·.size) = some ((⟨x.kind, 0, 0, 0, x.size, x.of, 0, zeros 16, 0⟩ : Ng)).cells.toArray.size ∧ ngZ.cells.toArray.size = ((⟨x.kind, 0, 0, 0, x.size, x.of, 0, zeros 16, 0⟩ : Ng)).cells.toArray.size ∧ ((⟨x.kind, 0, 0, 0, x.size, x.of, 0, zeros 16, 0⟩ : Ng)).cells.toArray.all (·.oneCell') = true) := ⟨ng_size _, rfl, ng_all _⟩
 have c0 := h1.kind
 have c5 := h1.of
 have c4 := h1.size
 obtain ⟨X, hX⟩ : ∃ X, x.cells.toArray = X := ⟨_, rfl⟩
 rw [hX] at HBX ⊢
 go_enter Tryz.func54, Tryz.ntmps54
 go_upto_region 1 with fail
 rw [← hX] at *
 rw [show #[.int .i64 0, .int .i64 0, .int .u32 0, .int .u32 0, .int .i64 0, .int .i64 0, .int .i64 0, .int .u8 0, .int .u8 0, .int .u8 0, .int .u8 0, .int .u8 0, .int .u8 0, .int .u8 0, .int .u8 0, .int .u8 0, .int .u8 0, .int .u8 0, .int .u8 0, .int .u8 0, .int .u8 0, .int .u8 0, .int .u8 0, .int .i64 0] = ngZ.cells.toArray from rfl]
 generalize (w.alloc (.cells x.cells.toArray 43)).alloc (.cells ngZ.cells.toArray 43) = w2 at *
 obtain ⟨R, hR⟩ : ∃ R, w.heap.size + 1 = R := ⟨_, rfl⟩
 have HG : Hid (w.grownBy (w2.setRow R ((⟨x.kind, 0, 0, 0, x.size, x.of, 0, zeros 16, 0⟩ : Ng)).cells.toArray) none) := vgrown_setRow h3 R _ (.inr (by omega))
 rw [hR] at h2 ⊢
 have V2 := h2.vat
 have HV : Hid (VAt w2 R 43 ngZ.cells.toArray) := V2
 clear h1 h2 hR HBX hX X h3
 generalize w.heap.size = B at *
 go_wp2_with (refine wpList_store_row rfl 43 (.tmp 2) (.tmp 9) rfl R ((⟨x.kind, 0, 0, 0, x.size, x.of, 0, zeros 16, 0⟩ : Ng)).cells.toArray rfl rfl 43 _ V2 HZ.out.1 HZ.out.2.1 HZ.out.2.2 ?_)
 refine bodyPost_ret (results_cell_row rfl _ _ R 43 _ (0, 0) _ rfl (HV.out.setRow _) Tryz.underlying43 rfl HZ.out.1) rfl ?_
 exact ⟨rfl, HG.out⟩
set_option maxHeartbeats 1000000 in
theorem usesAddress_any (x : Ng) (w : World) (h : x.kind = 14) : Calls Tryz.prog 71 #[.agg x.cells.toArray] w fun e w' => e = .returned (.agg (useG x).cells.toArray) ∧ w.grownBy w' none := by
 have hu : useG x = (⟨x.kind, 0, 0, 0, 0, x.of, x.side, x.addr, 0⟩ : Ng) := by
  unfold useG
  repeat' split
  all_goals first | rfl | omega
 rw [hu]
 clear hu h
 have HBX := box_ng x
 obtain ⟨h1, h2, h3⟩ := two_ng w x
 have HZ : Hid ((Tryz.prog.info? 43).map (·.size) = some ((⟨x.kind, 0, 0, 0, 0, x.of, x.side, x.addr, 0⟩ : Ng)).cells.toArray.size ∧ ngZ.cells.toArray.size = ((⟨x.kind, 0, 0, 0, 0, x.of, x.side, x.addr, 0⟩ : Ng)).cells.toArray.size ∧ ((⟨x.kind, 0, 0, 0, 0, x.of, x.side, x.addr, 0⟩ : Ng)).cells.toArray.all (·.oneCell') = true) := ⟨ng_size _, rfl, ng_all _⟩
 have c0 := h1.kind
 have c5 := h1.of
 have c6 := h1.side
 have HA : Hid (World.rangeAt _ _ 7 ((adgs x).map bv)) := h1.addr
 have HS : Hid ((Tryz.prog.info? 41).map (·.size) = some ((adgs x).map bv).length) := size_arr16 x
 obtain ⟨X, hX⟩ : ∃ X, x.cells.toArray = X := ⟨_, rfl⟩
 rw [hX] at HBX ⊢
 rw [adg_map] at HA HS
 go_enter Tryz.func71, Tryz.ntmps71
 go_upto_region 1 with fail
 rw [← hX] at *
 rw [show #[.int .i64 0, .int .i64 0, .int .u32 0, .int .u32 0, .int .i64 0, .int .i64 0, .int .i64 0, .int .u8 0, .int .u8 0, .int .u8 0, .int .u8 0, .int .u8 0, .int .u8 0, .int .u8 0, .int .u8 0, .int .u8 0, .int .u8 0, .int .u8 0, .int .u8 0, .int .u8 0, .int .u8 0, .int .u8 0, .int .u8 0, .int .i64 0] = ngZ.cells.toArray from rfl]
 generalize (w.alloc (.cells x.cells.toArray 43)).alloc (.cells ngZ.cells.toArray 43) = w2 at *
 obtain ⟨R, hR⟩ : ∃ R, w.heap.size + 1 = R := ⟨_, rfl⟩
 have HG : Hid (w.grownBy (w2.setRow R ((⟨x.kind, 0, 0, 0, 0, x.of, x.side, x.addr, 0⟩ : Ng)).cells.toArray) none) := vgrown_setRow h3 R _ (.inr (by omega))
 rw [hR] at h2 ⊢
 have V2 := h2.vat
 have HV : Hid (VAt w2 R 43 ngZ.cells.toArray) := V2
 clear h1 h2 hR HBX hX X h3
 generalize w.heap.size = B at *
 go_wp2_with (first | refine wpList_load_mid rfl 41 (.tmp 9) rfl B 7 rfl _ _ HA.out Tryz.underlying41 rfl HS.out ?_ | refine wpList_store_row rfl 43 (.tmp 2) (.tmp 11) rfl R ((⟨x.kind, 0, 0, 0, 0, x.of, x.side, x.addr, 0⟩ : Ng)).cells.toArray rfl rfl 43 _ V2 HZ.out.1 HZ.out.2.1 HZ.out.2.2 ?_)
 refine bodyPost_ret (results_cell_row rfl _ _ R 43 _ (0, 0) _ rfl (HV.out.setRow _) Tryz.underlying43 rfl HZ.out.1) rfl ?_
 exact ⟨rfl, HG.out⟩
set_option maxHeartbeats 1000000 in
theorem usesNet_any (x : Ng) (w : World) (h : x.kind = 15) : Calls Tryz.prog 73 #[.agg x.cells.toArray] w fun e w' => e = .returned (.agg (useG x).cells.toArray) ∧ w.grownBy w' none := by
 have hu : useG x = (⟨x.kind, 0, 0, 0, 0, x.of, x.side, x.addr, x.bits⟩ : Ng) := by
  unfold useG
  repeat' split
  all_goals first | rfl | omega
 rw [hu]
 clear hu h
 have HBX := box_ng x
 obtain ⟨h1, h2, h3⟩ := two_ng w x
 have HZ : Hid ((Tryz.prog.info? 43).map (·.size) = some ((⟨x.kind, 0, 0, 0, 0, x.of, x.side, x.addr, x.bits⟩ : Ng)).cells.toArray.size ∧ ngZ.cells.toArray.size = ((⟨x.kind, 0, 0, 0, 0, x.of, x.side, x.addr, x.bits⟩ : Ng)).cells.toArray.size ∧ ((⟨x.kind, 0, 0, 0, 0, x.of, x.side, x.addr, x.bits⟩ : Ng)).cells.toArray.all (·.oneCell') = true) := ⟨ng_size _, rfl, ng_all _⟩
 have c0 := h1.kind
 have c5 := h1.of
 have c6 := h1.side
 have c8 := h1.bits
 have HA : Hid (World.rangeAt _ _ 7 ((adgs x).map bv)) := h1.addr
 have HS : Hid ((Tryz.prog.info? 41).map (·.size) = some ((adgs x).map bv).length) := size_arr16 x
 obtain ⟨X, hX⟩ : ∃ X, x.cells.toArray = X := ⟨_, rfl⟩
 rw [hX] at HBX ⊢
 rw [adg_map] at HA HS
 go_enter Tryz.func73, Tryz.ntmps73
 go_upto_region 1 with fail
 rw [← hX] at *
 rw [show #[.int .i64 0, .int .i64 0, .int .u32 0, .int .u32 0, .int .i64 0, .int .i64 0, .int .i64 0, .int .u8 0, .int .u8 0, .int .u8 0, .int .u8 0, .int .u8 0, .int .u8 0, .int .u8 0, .int .u8 0, .int .u8 0, .int .u8 0, .int .u8 0, .int .u8 0, .int .u8 0, .int .u8 0, .int .u8 0, .int .u8 0, .int .i64 0] = ngZ.cells.toArray from rfl]
 generalize (w.alloc (.cells x.cells.toArray 43)).alloc (.cells ngZ.cells.toArray 43) = w2 at *
 obtain ⟨R, hR⟩ : ∃ R, w.heap.size + 1 = R := ⟨_, rfl⟩
 have HG : Hid (w.grownBy (w2.setRow R ((⟨x.kind, 0, 0, 0, 0, x.of, x.side, x.addr, x.bits⟩ : Ng)).cells.toArray) none) := vgrown_setRow h3 R _ (.inr (by omega))
 rw [hR] at h2 ⊢
 have V2 := h2.vat
 have HV : Hid (VAt w2 R 43 ngZ.cells.toArray) := V2
 clear h1 h2 hR HBX hX X h3
 generalize w.heap.size = B at *
 go_wp2_with (first | refine wpList_load_mid rfl 41 (.tmp 9) rfl B 7 rfl _ _ HA.out Tryz.underlying41 rfl HS.out ?_ | refine wpList_store_row rfl 43 (.tmp 2) (.tmp 13) rfl R ((⟨x.kind, 0, 0, 0, 0, x.of, x.side, x.addr, x.bits⟩ : Ng)).cells.toArray rfl rfl 43 _ V2 HZ.out.1 HZ.out.2.1 HZ.out.2.2 ?_)
 refine bodyPost_ret (results_cell_row rfl _ _ R 43 _ (0, 0) _ rfl (HV.out.setRow _) Tryz.underlying43 rfl HZ.out.1) rfl ?_
 exact ⟨rfl, HG.out⟩
set_option maxHeartbeats 1000000 in
theorem usesPorts_any (x : Ng) (w : World) (h : x.kind = 16) : Calls Tryz.prog 75 #[.agg x.cells.toArray] w fun e w' => e = .returned (.agg (useG x).cells.toArray) ∧ w.grownBy w' none := by
 have hu : useG x = (⟨x.kind, 0, x.n, x.m, 0, x.of, x.side, zeros 16, 0⟩ : Ng) := by
  unfold useG
  repeat' split
  all_goals first | rfl | omega
 rw [hu]
 clear hu h
 have HBX := box_ng x
 obtain ⟨h1, h2, h3⟩ := two_ng w x
 have HZ : Hid ((Tryz.prog.info? 43).map (·.size) = some ((⟨x.kind, 0, x.n, x.m, 0, x.of, x.side, zeros 16, 0⟩ : Ng)).cells.toArray.size ∧ ngZ.cells.toArray.size = ((⟨x.kind, 0, x.n, x.m, 0, x.of, x.side, zeros 16, 0⟩ : Ng)).cells.toArray.size ∧ ((⟨x.kind, 0, x.n, x.m, 0, x.of, x.side, zeros 16, 0⟩ : Ng)).cells.toArray.all (·.oneCell') = true) := ⟨ng_size _, rfl, ng_all _⟩
 have c0 := h1.kind
 have c5 := h1.of
 have c6 := h1.side
 have c2 := h1.n
 have c3 := h1.m
 obtain ⟨X, hX⟩ : ∃ X, x.cells.toArray = X := ⟨_, rfl⟩
 rw [hX] at HBX ⊢
 go_enter Tryz.func75, Tryz.ntmps75
 go_upto_region 1 with fail
 rw [← hX] at *
 rw [show #[.int .i64 0, .int .i64 0, .int .u32 0, .int .u32 0, .int .i64 0, .int .i64 0, .int .i64 0, .int .u8 0, .int .u8 0, .int .u8 0, .int .u8 0, .int .u8 0, .int .u8 0, .int .u8 0, .int .u8 0, .int .u8 0, .int .u8 0, .int .u8 0, .int .u8 0, .int .u8 0, .int .u8 0, .int .u8 0, .int .u8 0, .int .i64 0] = ngZ.cells.toArray from rfl]
 generalize (w.alloc (.cells x.cells.toArray 43)).alloc (.cells ngZ.cells.toArray 43) = w2 at *
 obtain ⟨R, hR⟩ : ∃ R, w.heap.size + 1 = R := ⟨_, rfl⟩
 have HG : Hid (w.grownBy (w2.setRow R ((⟨x.kind, 0, x.n, x.m, 0, x.of, x.side, zeros 16, 0⟩ : Ng)).cells.toArray) none) := vgrown_setRow h3 R _ (.inr (by omega))
 rw [hR] at h2 ⊢
 have V2 := h2.vat
 have HV : Hid (VAt w2 R 43 ngZ.cells.toArray) := V2
 clear h1 h2 hR HBX hX X h3
 generalize w.heap.size = B at *
 go_wp2_with (refine wpList_store_row rfl 43 (.tmp 2) (.tmp 13) rfl R ((⟨x.kind, 0, x.n, x.m, 0, x.of, x.side, zeros 16, 0⟩ : Ng)).cells.toArray rfl rfl 43 _ V2 HZ.out.1 HZ.out.2.1 HZ.out.2.2 ?_)
 refine bodyPost_ret (results_cell_row rfl _ _ R 43 _ (0, 0) _ rfl (HV.out.setRow _) Tryz.underlying43 rfl HZ.out.1) rfl ?_
 exact ⟨rfl, HG.out⟩
set_option maxHeartbeats 400000 in
theorem within_any (v lo hi : Int) (w : World) : Calls Tryz.prog 107 #[.int .i64 v, .int .i64 lo, .int .i64 hi] w fun e w' => e = .returned (.bool (inG v lo hi)) ∧ w = w' := by
 unfold inG
 by_cases h1 : lo ≤ v
 ·by_cases h2 : v ≤ hi
  ·rw [decide_eq_true h1, decide_eq_true h2]
   go_enter Tryz.func107, Tryz.ntmps107
   go_wp2
   go_ret
   exact ⟨rfl, rfl⟩
  ·rw [decide_eq_true h1, decide_eq_false h2]
   go_enter Tryz.func107, Tryz.ntmps107
   go_wp2
   go_ret
   exact ⟨rfl, rfl⟩
 ·rw [decide_eq_false h1]
  go_enter Tryz.func107, Tryz.ntmps107
  go_wp2
  go_ret
  exact ⟨rfl, rfl⟩
set_option maxHeartbeats 400000 in
theorem mayLoad_any (x : Ng) (w : World) : Calls Tryz.prog 55 #[.agg x.cells.toArray] w fun e w' => e = .returned (.bool (inG x.of 1 12)) ∧ w.grownBy w' none := by
 have HBX := box_ng x
 have h1 := NB.alloc w x
 have h3 := World.grownBy_alloc w (.cells x.cells.toArray 43) none
 have c5 := h1.of
 obtain ⟨X, hX⟩ : ∃ X, x.cells.toArray = X := ⟨_, rfl⟩
 rw [hX] at HBX ⊢
 go_enter Tryz.func55, Tryz.ntmps55
 go_upto_region 1 with fail
 rw [← hX] at *
 generalize w.alloc (.cells x.cells.toArray 43) = w1 at *
 generalize w.heap.size = B at *
 clear HBX hX X
 go_wp2_with fail
 refine (within_any _ _ _ _).mono ?_
 rintro e w' ⟨rfl, rfl⟩
 go_wp2
 go_ret
 exact ⟨rfl, h3⟩
set_option maxHeartbeats 400000 in
theorem mayReckon_any (x : Ng) (w : World) : Calls Tryz.prog 58 #[.agg x.cells.toArray] w fun e w' => e = .returned (.bool (inG x.op 1 10)) ∧ w.grownBy w' none := by
 have HBX := box_ng x
 have h1 := NB.alloc w x
 have h3 := World.grownBy_alloc w (.cells x.cells.toArray 43) none
 have c1 := h1.op
 obtain ⟨X, hX⟩ : ∃ X, x.cells.toArray = X := ⟨_, rfl⟩
 rw [hX] at HBX ⊢
 go_enter Tryz.func58, Tryz.ntmps58
 go_upto_region 1 with fail
 rw [← hX] at *
 generalize w.alloc (.cells x.cells.toArray 43) = w1 at *
 generalize w.heap.size = B at *
 clear HBX hX X
 go_wp2_with fail
 refine (within_any _ _ _ _).mono ?_
 rintro e w' ⟨rfl, rfl⟩
 go_wp2
 go_ret
 exact ⟨rfl, h3⟩
set_option maxHeartbeats 400000 in
theorem mayCompare_any (x : Ng) (w : World) : Calls Tryz.prog 61 #[.agg x.cells.toArray] w fun e w' => e = .returned (.bool (inG x.op 1 6)) ∧ w.grownBy w' none := by
 have HBX := box_ng x
 have h1 := NB.alloc w x
 have h3 := World.grownBy_alloc w (.cells x.cells.toArray 43) none
 have c1 := h1.op
 obtain ⟨X, hX⟩ : ∃ X, x.cells.toArray = X := ⟨_, rfl⟩
 rw [hX] at HBX ⊢
 go_enter Tryz.func61, Tryz.ntmps61
 go_upto_region 1 with fail
 rw [← hX] at *
 generalize w.alloc (.cells x.cells.toArray 43) = w1 at *
 generalize w.heap.size = B at *
 clear HBX hX X
 go_wp2_with fail
 refine (within_any _ _ _ _).mono ?_
 rintro e w' ⟨rfl, rfl⟩
 go_wp2
 go_ret
 exact ⟨rfl, h3⟩
set_option maxHeartbeats 400000 in
theorem mayGo_any (x : Ng) (w : World) : Calls Tryz.prog 63 #[.agg x.cells.toArray] w fun e w' => e = .returned (.bool (inG x.side 1 2)) ∧ w.grownBy w' none := by
 have HBX := box_ng x
 have h1 := NB.alloc w x
 have h3 := World.grownBy_alloc w (.cells x.cells.toArray 43) none
 have c6 := h1.side
 obtain ⟨X, hX⟩ : ∃ X, x.cells.toArray = X := ⟨_, rfl⟩
 rw [hX] at HBX ⊢
 go_enter Tryz.func63, Tryz.ntmps63
 go_upto_region 1 with fail
 rw [← hX] at *
 generalize w.alloc (.cells x.cells.toArray 43) = w1 at *
 generalize w.heap.size = B at *
 clear HBX hX X
 go_wp2_with fail
 refine (within_any _ _ _ _).mono ?_
 rintro e w' ⟨rfl, rfl⟩
 go_wp2
 go_ret
 exact ⟨rfl, h3⟩
set_option maxHeartbeats 400000 in
theorem mayName_any (x : Ng) (w : World) : Calls Tryz.prog 65 #[.agg x.cells.toArray] w fun e w' => e = .returned (.bool (inG x.of 2 13)) ∧ w.grownBy w' none := by
 have HBX := box_ng x
 have h1 := NB.alloc w x
 have h3 := World.grownBy_alloc w (.cells x.cells.toArray 43) none
 have c5 := h1.of
 obtain ⟨X, hX⟩ : ∃ X, x.cells.toArray = X := ⟨_, rfl⟩
 rw [hX] at HBX ⊢
 go_enter Tryz.func65, Tryz.ntmps65
 go_upto_region 1 with fail
 rw [← hX] at *
 generalize w.alloc (.cells x.cells.toArray 43) = w1 at *
 generalize w.heap.size = B at *
 clear HBX hX X
 go_wp2_with fail
 refine (within_any _ _ _ _).mono ?_
 rintro e w' ⟨rfl, rfl⟩
 go_wp2
 go_ret
 exact ⟨rfl, h3⟩
set_option maxHeartbeats 400000 in
theorem mayCarry_any (x : Ng) (w : World) : Calls Tryz.prog 68 #[.agg x.cells.toArray] w fun e w' => e = .returned (.bool (inG x.of 2 3)) ∧ w.grownBy w' none := by
 have HBX := box_ng x
 have h1 := NB.alloc w x
 have h3 := World.grownBy_alloc w (.cells x.cells.toArray 43) none
 have c5 := h1.of
 obtain ⟨X, hX⟩ : ∃ X, x.cells.toArray = X := ⟨_, rfl⟩
 rw [hX] at HBX ⊢
 go_enter Tryz.func68, Tryz.ntmps68
 go_upto_region 1 with fail
 rw [← hX] at *
 generalize w.alloc (.cells x.cells.toArray 43) = w1 at *
 generalize w.heap.size = B at *
 clear HBX hX X
 go_wp2_with fail
 refine (within_any _ _ _ _).mono ?_
 rintro e w' ⟨rfl, rfl⟩
 go_wp2
 go_ret
 exact ⟨rfl, h3⟩
set_option maxHeartbeats 400000 in
theorem maySide_any (x : Ng) (w : World) : Calls Tryz.prog 113 #[.agg x.cells.toArray] w fun e w' => e = .returned (.bool (inG x.side 0 2)) ∧ w.grownBy w' none := by
 have HBX := box_ng x
 have h1 := NB.alloc w x
 have h3 := World.grownBy_alloc w (.cells x.cells.toArray 43) none
 have c6 := h1.side
 obtain ⟨X, hX⟩ : ∃ X, x.cells.toArray = X := ⟨_, rfl⟩
 rw [hX] at HBX ⊢
 go_enter Tryz.func113, Tryz.ntmps113
 go_upto_region 1 with fail
 rw [← hX] at *
 generalize w.alloc (.cells x.cells.toArray 43) = w1 at *
 generalize w.heap.size = B at *
 clear HBX hX X
 go_wp2_with fail
 refine (within_any _ _ _ _).mono ?_
 rintro e w' ⟨rfl, rfl⟩
 go_wp2
 go_ret
 exact ⟨rfl, h3⟩
set_option maxHeartbeats 400000 in
theorem always_any (x : Ng) (w : World) : Calls Tryz.prog 49 #[.agg x.cells.toArray] w fun e w' => e = .returned (.bool true) ∧ w.grownBy w' none := by
 have HBX := box_ng x
 have h1 := NB.alloc w x
 have h3 := World.grownBy_alloc w (.cells x.cells.toArray 43) none
 obtain ⟨X, hX⟩ : ∃ X, x.cells.toArray = X := ⟨_, rfl⟩
 rw [hX] at HBX ⊢
 go_enter Tryz.func49, Tryz.ntmps49
 go_upto_region 1 with fail
 rw [← hX] at *
 generalize w.alloc (.cells x.cells.toArray 43) = w1 at *
 generalize w.heap.size = B at *
 clear HBX hX X
 go_wp2
 go_ret
 exact ⟨rfl, h3⟩
set_option maxHeartbeats 400000 in
theorem unbounded_any (x : Ng) (w : World) : Calls Tryz.prog 50 #[.agg x.cells.toArray] w fun e w' => e = .returned (.int .i64 0) ∧ w.grownBy w' none := by
 have HBX := box_ng x
 have h1 := NB.alloc w x
 have h3 := World.grownBy_alloc w (.cells x.cells.toArray 43) none
 obtain ⟨X, hX⟩ : ∃ X, x.cells.toArray = X := ⟨_, rfl⟩
 rw [hX] at HBX ⊢
 go_enter Tryz.func50, Tryz.ntmps50
 go_upto_region 1 with fail
 rw [← hX] at *
 generalize w.alloc (.cells x.cells.toArray 43) = w1 at *
 generalize w.heap.size = B at *
 clear HBX hX X
 go_wp2
 go_ret
 exact ⟨rfl, h3⟩
set_option maxHeartbeats 400000 in
theorem ranged_any (b : Bool) (w : World) : Calls Tryz.prog 108 #[.bool b] w fun e w' => e = .returned (.int .i64 (if b = true then 0 else 124)) ∧ w = w' := by
 cases b with
 | true =>
  go_enter Tryz.func108, Tryz.ntmps108
  go_wp2
  go_ret
  exact ⟨rfl, rfl⟩
 | false =>
  go_enter Tryz.func108, Tryz.ntmps108
  go_wp2
  go_ret
  exact ⟨rfl, rfl⟩
theorem wpList_load_rowG {P : Program} {ops : Array Oper} {rest : List Oper} {o : Oper} {a : Act} {w : World} {Q : Exit → Act → World → Prop} (hw : Region.wanted o (yielded ops a.tmps) = true) (ty : TypeId) (x : Operand) (ho : o.op = .load ty x)
  (g : Nat) (hx : a.eval x = .pointer (some ⟨g, 0, none⟩)) (t : TypeId) (cs : Array Value) (fr : Nat × Nat) (d : TypeDesc) (A : w.heap[g]? = some (.cells cs t fr))
  (hu : P.underlying ty = some d) (hd : (match d with | .struct _ | .array _ _ => true | _ => false) = true) (hi : (P.info? ty).map (·.size) = some cs.size)
  (h : wpList P ops Q rest (a.put o.dst (.agg cs)) w) : wpList P ops Q (o :: rest) a w := by
 refine BigFrame.wpList_want hw fun K hK => ?_
 unfold Oper.wp execOp
 simp only [ho, hx, Instr.loadAt, Instr.sureAddr, Sem.run_bind, Sem.run_pure, Result.andThen_ok, run_loadVar_row w g t ty cs fr d A hu hd hi]
 exact hK _ _ h
set_option maxHeartbeats 400000 in
theorem boundsOfLoad_any (x : Ng) (w : World) : Calls Tryz.prog 56 #[.agg x.cells.toArray] w fun e w' => e = .returned (.int .i64 (if x.size = 1 ∨ x.size = 2 ∨ x.size = 4 then 0 else 124)) ∧ w.grownBy w' none := by
 obtain ⟨E, hE⟩ : ∃ E : Int, (if x.size = 1 ∨ x.size = 2 ∨ x.size = 4 then 0 else 124) = E := ⟨_, rfl⟩
 rw [hE]
 have HE : Hid ((if x.size = 1 ∨ x.size = 2 ∨ x.size = 4 then 0 else 124) = E) := hE
 clear hE
 have HBX := box_ng x
 have h1 := NB.alloc w x
 have h3 := World.grownBy_alloc w (.cells x.cells.toArray 43) none
 have c4 := h1.size
 obtain ⟨X, hX⟩ : ∃ X, x.cells.toArray = X := ⟨_, rfl⟩
 rw [hX] at HBX ⊢
 go_enter Tryz.func56, Tryz.ntmps56
 go_upto_region 1 with fail
 rw [← hX] at *
 generalize w.alloc (.cells x.cells.toArray 43) = w1 at *
 generalize w.heap.size = B at *
 clear HBX hX X
 by_cases q1 : x.size = 1
 ·have HQ : Hid (x.size = 1 ∨ x.size = 2 ∨ x.size = 4) := (.inl q1)
  have e1 : (x.size == 1) = true := by simpa using q1
  clear q1
  go_wp2_with fail
  refine (ranged_any _ _).mono ?_
  rintro e w' ⟨rfl, rfl⟩
  go_wp2
  go_ret
  exact ⟨ret_int (by rw [← HE.out, if_pos HQ.out]), h3⟩
 ·have e1 : (x.size == 1) = false := by simpa using q1
  by_cases q2 : x.size = 2
  ·have HQ : Hid (x.size = 1 ∨ x.size = 2 ∨ x.size = 4) := (.inr (.inl q2))
   have e2 : (x.size == 2) = true := by simpa using q2
   clear q1 q2
   go_wp2_with fail
   refine (ranged_any _ _).mono ?_
   rintro e w' ⟨rfl, rfl⟩
   go_wp2
   go_ret
   exact ⟨ret_int (by rw [← HE.out, if_pos HQ.out]), h3⟩
  ·have e2 : (x.size == 2) = false := by simpa using q2
   by_cases q3 : x.size = 4
   ·have HQ : Hid (x.size = 1 ∨ x.size = 2 ∨ x.size = 4) := (.inr (.inr q3))
    have e3 : (x.size == 4) = true := by simpa using q3
    clear q1 q2 q3
    go_wp2_with fail
    refine (ranged_any _ _).mono ?_
    rintro e w' ⟨rfl, rfl⟩
    go_wp2
    go_ret
    exact ⟨ret_int (by rw [← HE.out, if_pos HQ.out]), h3⟩
   ·have HQ : Hid (¬ (x.size = 1 ∨ x.size = 2 ∨ x.size = 4)) := (fun h => by omega)
    have e3 : (x.size == 4) = false := by simpa using q3
    clear q1 q2 q3
    go_wp2_with fail
    refine (ranged_any _ _).mono ?_
    rintro e w' ⟨rfl, rfl⟩
    go_wp2
    go_ret
    exact ⟨ret_int (by rw [← HE.out, if_neg HQ.out]), h3⟩
set_option maxHeartbeats 400000 in
theorem boundsOfProto_any (x : Ng) (w : World) : Calls Tryz.prog 66 #[.agg x.cells.toArray] w fun e w' => e = .returned (.int .i64 (if x.n ≤ 65535 then 0 else 124)) ∧ w.grownBy w' none := by
 obtain ⟨E, hE⟩ : ∃ E : Int, (if x.n ≤ 65535 then 0 else 124) = E := ⟨_, rfl⟩
 rw [hE]
 have HE : Hid ((if x.n ≤ 65535 then 0 else 124) = E) := hE
 clear hE
 have HBX := box_ng x
 have h1 := NB.alloc w x
 have h3 := World.grownBy_alloc w (.cells x.cells.toArray 43) none
 have c2 := h1.n
 obtain ⟨X, hX⟩ : ∃ X, x.cells.toArray = X := ⟨_, rfl⟩
 rw [hX] at HBX ⊢
 go_enter Tryz.func66, Tryz.ntmps66
 go_upto_region 1 with fail
 rw [← hX] at *
 generalize w.alloc (.cells x.cells.toArray 43) = w1 at *
 generalize w.heap.size = B at *
 clear HBX hX X
 by_cases q1 : x.n ≤ 65535
 ·have HQ : Hid (x.n ≤ 65535) := q1
  have e1 : decide ((x.n : Int) ≤ 65535) = true := decide_eq_true (by omega)
  clear q1
  go_wp2_with fail
  refine (ranged_any _ _).mono ?_
  rintro e w' ⟨rfl, rfl⟩
  go_wp2
  go_ret
  exact ⟨ret_int (by rw [← HE.out, if_pos HQ.out]), h3⟩
 ·have HQ : Hid (¬ (x.n ≤ 65535)) := q1
  have e1 : decide ((x.n : Int) ≤ 65535) = false := decide_eq_false (by omega)
  clear q1
  go_wp2_with fail
  refine (ranged_any _ _).mono ?_
  rintro e w' ⟨rfl, rfl⟩
  go_wp2
  go_ret
  exact ⟨ret_int (by rw [← HE.out, if_neg HQ.out]), h3⟩
set_option maxHeartbeats 400000 in
theorem boundsOfNext_any (x : Ng) (w : World) : Calls Tryz.prog 69 #[.agg x.cells.toArray] w fun e w' => e = .returned (.int .i64 (if x.n ≤ 255 then 0 else 124)) ∧ w.grownBy w' none := by
 obtain ⟨E, hE⟩ : ∃ E : Int, (if x.n ≤ 255 then 0 else 124) = E := ⟨_, rfl⟩
 rw [hE]
 have HE : Hid ((if x.n ≤ 255 then 0 else 124) = E) := hE
 clear hE
 have HBX := box_ng x
 have h1 := NB.alloc w x
 have h3 := World.grownBy_alloc w (.cells x.cells.toArray 43) none
 have c2 := h1.n
 obtain ⟨X, hX⟩ : ∃ X, x.cells.toArray = X := ⟨_, rfl⟩
 rw [hX] at HBX ⊢
 go_enter Tryz.func69, Tryz.ntmps69
 go_upto_region 1 with fail
 rw [← hX] at *
 generalize w.alloc (.cells x.cells.toArray 43) = w1 at *
 generalize w.heap.size = B at *
 clear HBX hX X
 by_cases q1 : x.n ≤ 255
 ·have HQ : Hid (x.n ≤ 255) := q1
  have e1 : decide ((x.n : Int) ≤ 255) = true := decide_eq_true (by omega)
  clear q1
  go_wp2_with fail
  refine (ranged_any _ _).mono ?_
  rintro e w' ⟨rfl, rfl⟩
  go_wp2
  go_ret
  exact ⟨ret_int (by rw [← HE.out, if_pos HQ.out]), h3⟩
 ·have HQ : Hid (¬ (x.n ≤ 255)) := q1
  have e1 : decide ((x.n : Int) ≤ 255) = false := decide_eq_false (by omega)
  clear q1
  go_wp2_with fail
  refine (ranged_any _ _).mono ?_
  rintro e w' ⟨rfl, rfl⟩
  go_wp2
  go_ret
  exact ⟨ret_int (by rw [← HE.out, if_neg HQ.out]), h3⟩
set_option maxHeartbeats 400000 in
theorem boundsOfPort_any (x : Ng) (w : World) : Calls Tryz.prog 77 #[.agg x.cells.toArray] w fun e w' => e = .returned (.int .i64 (if x.n ≤ x.m ∧ x.m ≤ 65535 then 0 else 124)) ∧ w.grownBy w' none := by
 obtain ⟨E, hE⟩ : ∃ E : Int, (if x.n ≤ x.m ∧ x.m ≤ 65535 then 0 else 124) = E := ⟨_, rfl⟩
 rw [hE]
 have HE : Hid ((if x.n ≤ x.m ∧ x.m ≤ 65535 then 0 else 124) = E) := hE
 clear hE
 have HBX := box_ng x
 have h1 := NB.alloc w x
 have h3 := World.grownBy_alloc w (.cells x.cells.toArray 43) none
 have c2 := h1.n
 have c3 := h1.m
 obtain ⟨X, hX⟩ : ∃ X, x.cells.toArray = X := ⟨_, rfl⟩
 rw [hX] at HBX ⊢
 go_enter Tryz.func77, Tryz.ntmps77
 go_upto_region 1 with fail
 rw [← hX] at *
 generalize w.alloc (.cells x.cells.toArray 43) = w1 at *
 generalize w.heap.size = B at *
 clear HBX hX X
 by_cases q1 : x.n ≤ x.m
 ·have e1 : decide (x.n ≤ x.m) = true := decide_eq_true q1
  by_cases q2 : x.m ≤ 65535
  ·have HQ : Hid (x.n ≤ x.m ∧ x.m ≤ 65535) := ⟨q1, q2⟩
   have e2 : decide ((x.m : Int) ≤ 65535) = true := decide_eq_true (by omega)
   clear q1 q2
   go_wp2_with fail
   refine (ranged_any _ _).mono ?_
   rintro e w' ⟨rfl, rfl⟩
   go_wp2
   go_ret
   exact ⟨ret_int (by rw [← HE.out, if_pos HQ.out]), h3⟩
  ·have HQ : Hid (¬ (x.n ≤ x.m ∧ x.m ≤ 65535)) := (fun h => q2 h.2)
   have e2 : decide ((x.m : Int) ≤ 65535) = false := decide_eq_false (by omega)
   clear q1 q2
   go_wp2_with fail
   refine (ranged_any _ _).mono ?_
   rintro e w' ⟨rfl, rfl⟩
   go_wp2
   go_ret
   exact ⟨ret_int (by rw [← HE.out, if_neg HQ.out]), h3⟩
 ·have HQ : Hid (¬ (x.n ≤ x.m ∧ x.m ≤ 65535)) := (fun h => q1 h.1)
  have e1 : decide (x.n ≤ x.m) = false := decide_eq_false q1
  clear q1
  go_wp2_with fail
  refine (ranged_any _ _).mono ?_
  rintro e w' ⟨rfl, rfl⟩
  go_wp2
  go_ret
  exact ⟨ret_int (by rw [← HE.out, if_neg HQ.out]), h3⟩
set_option maxHeartbeats 400000 in
theorem mayPort_any (x : Ng) (w : World) : Calls Tryz.prog 76 #[.agg x.cells.toArray] w fun e w' => e = .returned (.bool ((x.of == 0 || inG x.of 4 5) && inG x.side 0 2)) ∧ w.grownBy w' none := by
 obtain ⟨E, hE⟩ : ∃ E : Bool, ((x.of == 0 || inG x.of 4 5) && inG x.side 0 2) = E := ⟨_, rfl⟩
 rw [hE]
 have HE : Hid (((x.of == 0 || inG x.of 4 5) && inG x.side 0 2) = E) := hE
 clear hE
 have HBX := box_ng x
 have h1 := NB.alloc w x
 have h3 := World.grownBy_alloc w (.cells x.cells.toArray 43) none
 have c5 := h1.of
 obtain ⟨X, hX⟩ : ∃ X, x.cells.toArray = X := ⟨_, rfl⟩
 rw [hX] at HBX ⊢
 go_enter Tryz.func76, Tryz.ntmps76
 go_upto_region 1 with fail
 rw [← hX] at *
 generalize w.alloc (.cells x.cells.toArray 43) = w1 at *
 generalize w.heap.size = B at *
 clear HBX hX X
 have HL : Hid (NB w1 B x) := h1
 have HS : Hid (∀ W : World, Calls Tryz.prog 113 #[.agg x.cells.toArray] W fun e w' => e = .returned (.bool (inG x.side 0 2)) ∧ W.grownBy w' none) := fun W => maySide_any x W
 have HZ : Hid ((Tryz.prog.info? 43).map (·.size) = some x.cells.toArray.size) := ng_size x
 have LV := h1.vat
 obtain ⟨X, hX⟩ : ∃ X, x.cells.toArray = X := ⟨_, rfl⟩
 rw [hX] at HS HZ LV
 clear hX h1
 cases q1 : (x.of == 0) with
 | true =>
  have HQ1 : Hid ((x.of == 0) = true) := q1
  go_wp2_with (refine wpList_load_rowG (by rfl) 43 (.tmp 1) rfl B rfl 43 X (0, 0) _ LV Tryz.underlying43 rfl HZ.out ?_)
  refine (HS.out _).mono ?_
  rintro e w2 ⟨rfl, K2⟩
  have G := grown_trans h3 K2
  clear K2
  go_wp2
  go_ret
  exact ⟨ret_bool (by rw [← HE.out]; simp [HQ1.out]), G⟩
 | false =>
  have HQ1 : Hid ((x.of == 0) = false) := q1
  cases q2 : inG x.of 4 5 with
  | true =>
   have HQ2 : Hid (inG x.of 4 5 = true) := q2
   go_wp2_with fail
   refine (within_any _ _ _ _).mono ?_
   rintro e w' ⟨rfl, rfl⟩
   rw [q2]
   go_wp2_with (refine wpList_load_rowG (by rfl) 43 (.tmp 1) rfl B rfl 43 X (0, 0) _ LV Tryz.underlying43 rfl HZ.out ?_)
   refine (HS.out _).mono ?_
   rintro e w2 ⟨rfl, K2⟩
   have G := grown_trans h3 K2
   clear K2
   go_wp2
   go_ret
   exact ⟨ret_bool (by rw [← HE.out]; simp [HQ1.out, HQ2.out]), G⟩
  | false =>
   have HQ2 : Hid (inG x.of 4 5 = false) := q2
   go_wp2_with fail
   refine (within_any _ _ _ _).mono ?_
   rintro e w' ⟨rfl, rfl⟩
   rw [q2]
   go_wp2
   go_ret
   exact ⟨ret_bool (by rw [← HE.out]; simp [HQ1.out, HQ2.out]), h3⟩
def arI (k : Int) : Int := match arG k with
 | some a => (a : Int)
 | none => -1

end Go.Proofs.YtklipelnjgpnjaaGreatDoor
