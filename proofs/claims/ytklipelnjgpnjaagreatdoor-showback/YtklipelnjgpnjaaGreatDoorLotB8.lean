import Derived.Test.YtklipelnjgpnjaaGreatDoorLotB7
import Derived.Deep.MidRow
import Derived.BigQuiet
import Derived.Deep.RegionHeld3
set_option maxHeartbeats 64000000
set_option maxRecDepth 100000
namespace Go.Proofs.YtklipelnjgpnjaaGreatDoor
open Go.RowKit
theorem D0 (x : Ng) (W : World) : (Instr.box 43 (.agg x.cells.toArray)).run Tryz.prog W = .ok (.pointer (some ⟨W.heap.size, 0, none⟩)) (W.alloc (.cells x.cells.toArray 43)) := by kernel_rfl
theorem J3 (x : Ng) : (Tryz.prog.info? 43).map (·.size) = some x.cells.toArray.size := a4c
theorem Z8 (x : Ng) : x.cells.toArray.all (·.oneCell') = true := by simp [Ng.cells, adg, Value.oneCell']
theorem a7J (x : Ng) : (m3 x).map bv = [adg x 0, adg x 1, adg x 2, adg x 3, adg x 4, adg x 5, adg x 6, adg x 7, adg x 8, adg x 9, adg x 10, adg x 11, adg x 12, adg x 13, adg x 14, adg x 15] := rfl
def NB (w : World) (B : Nat) (x : Ng) : Prop := VAt w B 43 x.cells.toArray
section
variable {w w' : World} {B : Nat} {x : Ng}
theorem NB.vat (h : NB w B x) : VAt w B 43 x.cells.toArray := h
theorem NB.kept (h : NB w B x) (K : w.grownBy w' none) : NB w' B x := VAt.kept h K
theorem NB.kind (h : NB w B x) : w.cell? ⟨B, 0, none⟩ = some (.int .i64 x.kind) := VAt.cell h 0
theorem NB.op (h : NB w B x) : w.cell? ⟨B, 1, none⟩ = some (.int .i64 x.op) := VAt.cell h 1
theorem NB.n (h : NB w B x) : w.cell? ⟨B, 2, none⟩ = some (.int .u32 (x.n : Int)) := VAt.cell h 2
theorem NB.m (h : NB w B x) : w.cell? ⟨B, 3, none⟩ = some (.int .u32 (x.m : Int)) := VAt.cell h 3
theorem NB.size (h : NB w B x) : w.cell? ⟨B, 4, none⟩ = some (.int .i64 x.size) := VAt.cell h 4
theorem NB.of (h : NB w B x) : w.cell? ⟨B, 5, none⟩ = some (.int .i64 x.of) := VAt.cell h 5
theorem NB.side (h : NB w B x) : w.cell? ⟨B, 6, none⟩ = some (.int .i64 x.side) := VAt.cell h 6
theorem NB.bits (h : NB w B x) : w.cell? ⟨B, 23, none⟩ = some (.int .i64 x.bits) := VAt.cell h 23
theorem NB.addr (h : NB w B x) : w.rangeAt B 7 ((m3 x).map bv) := by
 intro j v hv
 rw [VAt.cell h (7 + j)]
 have hj : j < 16 := (List.getElem?_eq_some_iff.1 hv).1
 have : j = 0 ∨ j = 1 ∨ j = 2 ∨ j = 3 ∨ j = 4 ∨ j = 5 ∨ j = 6 ∨ j = 7 ∨ j = 8 ∨ j = 9 ∨ j = 10 ∨ j = 11 ∨ j = 12 ∨ j = 13 ∨ j = 14 ∨ j = 15 := by omega
 rcases this with rfl | rfl | rfl | rfl | rfl | rfl | rfl | rfl | rfl | rfl | rfl | rfl | rfl | rfl | rfl | rfl <;> exact hv
theorem NB.alloc (w : World) (x : Ng) : NB (w.alloc (.cells x.cells.toArray 43)) w.heap.size x := VAt.alloc _ _ _
end
def ngZ : Ng := ⟨0, 0, 0, 0, 0, 0, 0, j0 16, 0⟩
theorem a5r (x : Ng) : (Tryz.prog.info? 41).map (·.size) = some ((m3 x).map bv).length := by kernel_rfl
theorem a1B (w : World) (x : Ng) : NB ((w.alloc (.cells x.cells.toArray 43)).alloc (.cells ngZ.cells.toArray 43)) w.heap.size x ∧ NB ((w.alloc (.cells x.cells.toArray 43)).alloc (.cells ngZ.cells.toArray 43)) (w.heap.size + 1) ngZ ∧ w.grownBy ((w.alloc (.cells x.cells.toArray 43)).alloc (.cells ngZ.cells.toArray 43)) none := by
 have K := World.grownBy_alloc (w.alloc (.cells x.cells.toArray 43)) (.cells ngZ.cells.toArray 43) none
 have h := NB.alloc (w.alloc (.cells x.cells.toArray 43)) ngZ
 rw [show (w.alloc (.cells x.cells.toArray 43)).heap.size = w.heap.size + 1 by simp] at h
 exact ⟨(NB.alloc w x).kept K, h, d3 (World.grownBy_alloc w _ none) K⟩
theorem a4i (x : Ng) (w : World) (h : x.kind = 2 ∨ x.kind = 5 ∨ x.kind = 7 ∨ x.kind = 8 ∨ x.kind = 9) : Calls Tryz.prog 52 #[.agg x.cells.toArray] w fun e w' => e = .returned (.agg (j6 x).cells.toArray) ∧ w.grownBy w' none := by
 have hu : j6 x = (⟨x.kind, 0, 0, 0, 0, 0, 0, j0 16, 0⟩ : Ng) := by
  unfold j6
  repeat' split
  all_goals first | rfl | omega
 rw [hu]
 clear hu h
 have HBX := D0 x
 obtain ⟨h1, h2, h3⟩ := a1B w x
 have HZ : Hid ((Tryz.prog.info? 43).map (·.size) = some ((⟨x.kind, 0, 0, 0, 0, 0, 0, j0 16, 0⟩ : Ng)).cells.toArray.size ∧ ngZ.cells.toArray.size = ((⟨x.kind, 0, 0, 0, 0, 0, 0, j0 16, 0⟩ : Ng)).cells.toArray.size ∧ ((⟨x.kind, 0, 0, 0, 0, 0, 0, j0 16, 0⟩ : Ng)).cells.toArray.all (·.oneCell') = true) := ⟨J3 _, rfl, Z8 _⟩
 have c0 := h1.kind
 obtain ⟨X, hX⟩ : ∃ X, x.cells.toArray = X := ⟨_, rfl⟩
 rw [hX] at HBX ⊢
 go_enter Tryz.func52, Tryz.ntmps52
 go_upto_region 1 with fail
 rw [← hX] at *
 rw [show #[.int .i64 0, .int .i64 0, .int .u32 0, .int .u32 0, .int .i64 0, .int .i64 0, .int .i64 0, .int .u8 0, .int .u8 0, .int .u8 0, .int .u8 0, .int .u8 0, .int .u8 0, .int .u8 0, .int .u8 0, .int .u8 0, .int .u8 0, .int .u8 0, .int .u8 0, .int .u8 0, .int .u8 0, .int .u8 0, .int .u8 0, .int .i64 0] = ngZ.cells.toArray from rfl]
 generalize (w.alloc (.cells x.cells.toArray 43)).alloc (.cells ngZ.cells.toArray 43) = w2 at *
 obtain ⟨R, hR⟩ : ∃ R, w.heap.size + 1 = R := ⟨_, rfl⟩
 have HG : Hid (w.grownBy (w2.setRow R ((⟨x.kind, 0, 0, 0, 0, 0, 0, j0 16, 0⟩ : Ng)).cells.toArray) none) := D7 h3 R _ (.inr (by omega))
 rw [hR] at h2 ⊢
 have V2 := h2.vat
 have HV : Hid (VAt w2 R 43 ngZ.cells.toArray) := V2
 clear h1 h2 hR HBX hX X h3
 generalize w.heap.size = B at *
 go_wp2_with (refine wpList_store_row rfl 43 (.tmp 2) (.tmp 5) rfl R ((⟨x.kind, 0, 0, 0, 0, 0, 0, j0 16, 0⟩ : Ng)).cells.toArray rfl rfl 43 _ V2 HZ.out.1 HZ.out.2.1 HZ.out.2.2 ?_)
 refine bodyPost_ret (results_cell_row rfl _ _ R 43 _ (0, 0) _ rfl (HV.out.setRow _) Tryz.underlying43 rfl HZ.out.1) rfl ?_
 exact ⟨rfl, HG.out⟩
theorem af8 (x : Ng) (w : World) (h : x.kind = 1 ∨ x.kind = 12) : Calls Tryz.prog 48 #[.agg x.cells.toArray] w fun e w' => e = .returned (.agg (j6 x).cells.toArray) ∧ w.grownBy w' none := by
 have hu : j6 x = (⟨x.kind, 0, x.n, 0, 0, 0, 0, j0 16, 0⟩ : Ng) := by
  unfold j6
  repeat' split
  all_goals first | rfl | omega
 rw [hu]
 clear hu h
 have HBX := D0 x
 obtain ⟨h1, h2, h3⟩ := a1B w x
 have HZ : Hid ((Tryz.prog.info? 43).map (·.size) = some ((⟨x.kind, 0, x.n, 0, 0, 0, 0, j0 16, 0⟩ : Ng)).cells.toArray.size ∧ ngZ.cells.toArray.size = ((⟨x.kind, 0, x.n, 0, 0, 0, 0, j0 16, 0⟩ : Ng)).cells.toArray.size ∧ ((⟨x.kind, 0, x.n, 0, 0, 0, 0, j0 16, 0⟩ : Ng)).cells.toArray.all (·.oneCell') = true) := ⟨J3 _, rfl, Z8 _⟩
 have c0 := h1.kind
 have c2 := h1.n
 obtain ⟨X, hX⟩ : ∃ X, x.cells.toArray = X := ⟨_, rfl⟩
 rw [hX] at HBX ⊢
 go_enter Tryz.func48, Tryz.ntmps48
 go_upto_region 1 with fail
 rw [← hX] at *
 rw [show #[.int .i64 0, .int .i64 0, .int .u32 0, .int .u32 0, .int .i64 0, .int .i64 0, .int .i64 0, .int .u8 0, .int .u8 0, .int .u8 0, .int .u8 0, .int .u8 0, .int .u8 0, .int .u8 0, .int .u8 0, .int .u8 0, .int .u8 0, .int .u8 0, .int .u8 0, .int .u8 0, .int .u8 0, .int .u8 0, .int .u8 0, .int .i64 0] = ngZ.cells.toArray from rfl]
 generalize (w.alloc (.cells x.cells.toArray 43)).alloc (.cells ngZ.cells.toArray 43) = w2 at *
 obtain ⟨R, hR⟩ : ∃ R, w.heap.size + 1 = R := ⟨_, rfl⟩
 have HG : Hid (w.grownBy (w2.setRow R ((⟨x.kind, 0, x.n, 0, 0, 0, 0, j0 16, 0⟩ : Ng)).cells.toArray) none) := D7 h3 R _ (.inr (by omega))
 rw [hR] at h2 ⊢
 have V2 := h2.vat
 have HV : Hid (VAt w2 R 43 ngZ.cells.toArray) := V2
 clear h1 h2 hR HBX hX X h3
 generalize w.heap.size = B at *
 go_wp2_with (refine wpList_store_row rfl 43 (.tmp 2) (.tmp 7) rfl R ((⟨x.kind, 0, x.n, 0, 0, 0, 0, j0 16, 0⟩ : Ng)).cells.toArray rfl rfl 43 _ V2 HZ.out.1 HZ.out.2.1 HZ.out.2.2 ?_)
 refine bodyPost_ret (results_cell_row rfl _ _ R 43 _ (0, 0) _ rfl (HV.out.setRow _) Tryz.underlying43 rfl HZ.out.1) rfl ?_
 exact ⟨rfl, HG.out⟩
theorem af9 (x : Ng) (w : World) (h : x.kind = 4 ∨ x.kind = 6) : Calls Tryz.prog 57 #[.agg x.cells.toArray] w fun e w' => e = .returned (.agg (j6 x).cells.toArray) ∧ w.grownBy w' none := by
 have hu : j6 x = (⟨x.kind, x.op, 0, 0, 0, 0, 0, j0 16, 0⟩ : Ng) := by
  unfold j6
  repeat' split
  all_goals first | rfl | omega
 rw [hu]
 clear hu h
 have HBX := D0 x
 obtain ⟨h1, h2, h3⟩ := a1B w x
 have HZ : Hid ((Tryz.prog.info? 43).map (·.size) = some ((⟨x.kind, x.op, 0, 0, 0, 0, 0, j0 16, 0⟩ : Ng)).cells.toArray.size ∧ ngZ.cells.toArray.size = ((⟨x.kind, x.op, 0, 0, 0, 0, 0, j0 16, 0⟩ : Ng)).cells.toArray.size ∧ ((⟨x.kind, x.op, 0, 0, 0, 0, 0, j0 16, 0⟩ : Ng)).cells.toArray.all (·.oneCell') = true) := ⟨J3 _, rfl, Z8 _⟩
 have c0 := h1.kind
 have c1 := h1.op
 obtain ⟨X, hX⟩ : ∃ X, x.cells.toArray = X := ⟨_, rfl⟩
 rw [hX] at HBX ⊢
 go_enter Tryz.func57, Tryz.ntmps57
 go_upto_region 1 with fail
 rw [← hX] at *
 rw [show #[.int .i64 0, .int .i64 0, .int .u32 0, .int .u32 0, .int .i64 0, .int .i64 0, .int .i64 0, .int .u8 0, .int .u8 0, .int .u8 0, .int .u8 0, .int .u8 0, .int .u8 0, .int .u8 0, .int .u8 0, .int .u8 0, .int .u8 0, .int .u8 0, .int .u8 0, .int .u8 0, .int .u8 0, .int .u8 0, .int .u8 0, .int .i64 0] = ngZ.cells.toArray from rfl]
 generalize (w.alloc (.cells x.cells.toArray 43)).alloc (.cells ngZ.cells.toArray 43) = w2 at *
 obtain ⟨R, hR⟩ : ∃ R, w.heap.size + 1 = R := ⟨_, rfl⟩
 have HG : Hid (w.grownBy (w2.setRow R ((⟨x.kind, x.op, 0, 0, 0, 0, 0, j0 16, 0⟩ : Ng)).cells.toArray) none) := D7 h3 R _ (.inr (by omega))
 rw [hR] at h2 ⊢
 have V2 := h2.vat
 have HV : Hid (VAt w2 R 43 ngZ.cells.toArray) := V2
 clear h1 h2 hR HBX hX X h3
 generalize w.heap.size = B at *
 go_wp2_with (refine wpList_store_row rfl 43 (.tmp 2) (.tmp 7) rfl R ((⟨x.kind, x.op, 0, 0, 0, 0, 0, j0 16, 0⟩ : Ng)).cells.toArray rfl rfl 43 _ V2 HZ.out.1 HZ.out.2.1 HZ.out.2.2 ?_)
 refine bodyPost_ret (results_cell_row rfl _ _ R 43 _ (0, 0) _ rfl (HV.out.setRow _) Tryz.underlying43 rfl HZ.out.1) rfl ?_
 exact ⟨rfl, HG.out⟩
theorem b0A (x : Ng) (w : World) (h : x.kind = 11) : Calls Tryz.prog 64 #[.agg x.cells.toArray] w fun e w' => e = .returned (.agg (j6 x).cells.toArray) ∧ w.grownBy w' none := by
 have hu : j6 x = (⟨x.kind, 0, 0, 0, 0, x.of, 0, j0 16, 0⟩ : Ng) := by
  unfold j6
  repeat' split
  all_goals first | rfl | omega
 rw [hu]
 clear hu h
 have HBX := D0 x
 obtain ⟨h1, h2, h3⟩ := a1B w x
 have HZ : Hid ((Tryz.prog.info? 43).map (·.size) = some ((⟨x.kind, 0, 0, 0, 0, x.of, 0, j0 16, 0⟩ : Ng)).cells.toArray.size ∧ ngZ.cells.toArray.size = ((⟨x.kind, 0, 0, 0, 0, x.of, 0, j0 16, 0⟩ : Ng)).cells.toArray.size ∧ ((⟨x.kind, 0, 0, 0, 0, x.of, 0, j0 16, 0⟩ : Ng)).cells.toArray.all (·.oneCell') = true) := ⟨J3 _, rfl, Z8 _⟩
 have c0 := h1.kind
 have c5 := h1.of
 obtain ⟨X, hX⟩ : ∃ X, x.cells.toArray = X := ⟨_, rfl⟩
 rw [hX] at HBX ⊢
 go_enter Tryz.func64, Tryz.ntmps64
 go_upto_region 1 with fail
 rw [← hX] at *
 rw [show #[.int .i64 0, .int .i64 0, .int .u32 0, .int .u32 0, .int .i64 0, .int .i64 0, .int .i64 0, .int .u8 0, .int .u8 0, .int .u8 0, .int .u8 0, .int .u8 0, .int .u8 0, .int .u8 0, .int .u8 0, .int .u8 0, .int .u8 0, .int .u8 0, .int .u8 0, .int .u8 0, .int .u8 0, .int .u8 0, .int .u8 0, .int .i64 0] = ngZ.cells.toArray from rfl]
 generalize (w.alloc (.cells x.cells.toArray 43)).alloc (.cells ngZ.cells.toArray 43) = w2 at *
 obtain ⟨R, hR⟩ : ∃ R, w.heap.size + 1 = R := ⟨_, rfl⟩
 have HG : Hid (w.grownBy (w2.setRow R ((⟨x.kind, 0, 0, 0, 0, x.of, 0, j0 16, 0⟩ : Ng)).cells.toArray) none) := D7 h3 R _ (.inr (by omega))
 rw [hR] at h2 ⊢
 have V2 := h2.vat
 have HV : Hid (VAt w2 R 43 ngZ.cells.toArray) := V2
 clear h1 h2 hR HBX hX X h3
 generalize w.heap.size = B at *
 go_wp2_with (refine wpList_store_row rfl 43 (.tmp 2) (.tmp 7) rfl R ((⟨x.kind, 0, 0, 0, 0, x.of, 0, j0 16, 0⟩ : Ng)).cells.toArray rfl rfl 43 _ V2 HZ.out.1 HZ.out.2.1 HZ.out.2.2 ?_)
 refine bodyPost_ret (results_cell_row rfl _ _ R 43 _ (0, 0) _ rfl (HV.out.setRow _) Tryz.underlying43 rfl HZ.out.1) rfl ?_
 exact ⟨rfl, HG.out⟩
theorem b0C (x : Ng) (w : World) (h : x.kind = 10) : Calls Tryz.prog 62 #[.agg x.cells.toArray] w fun e w' => e = .returned (.agg (j6 x).cells.toArray) ∧ w.grownBy w' none := by
 have hu : j6 x = (⟨x.kind, 0, 0, 0, 0, 0, x.side, j0 16, 0⟩ : Ng) := by
  unfold j6
  repeat' split
  all_goals first | rfl | omega
 rw [hu]
 clear hu h
 have HBX := D0 x
 obtain ⟨h1, h2, h3⟩ := a1B w x
 have HZ : Hid ((Tryz.prog.info? 43).map (·.size) = some ((⟨x.kind, 0, 0, 0, 0, 0, x.side, j0 16, 0⟩ : Ng)).cells.toArray.size ∧ ngZ.cells.toArray.size = ((⟨x.kind, 0, 0, 0, 0, 0, x.side, j0 16, 0⟩ : Ng)).cells.toArray.size ∧ ((⟨x.kind, 0, 0, 0, 0, 0, x.side, j0 16, 0⟩ : Ng)).cells.toArray.all (·.oneCell') = true) := ⟨J3 _, rfl, Z8 _⟩
 have c0 := h1.kind
 have c6 := h1.side
 obtain ⟨X, hX⟩ : ∃ X, x.cells.toArray = X := ⟨_, rfl⟩
 rw [hX] at HBX ⊢
 go_enter Tryz.func62, Tryz.ntmps62
 go_upto_region 1 with fail
 rw [← hX] at *
 rw [show #[.int .i64 0, .int .i64 0, .int .u32 0, .int .u32 0, .int .i64 0, .int .i64 0, .int .i64 0, .int .u8 0, .int .u8 0, .int .u8 0, .int .u8 0, .int .u8 0, .int .u8 0, .int .u8 0, .int .u8 0, .int .u8 0, .int .u8 0, .int .u8 0, .int .u8 0, .int .u8 0, .int .u8 0, .int .u8 0, .int .u8 0, .int .i64 0] = ngZ.cells.toArray from rfl]
 generalize (w.alloc (.cells x.cells.toArray 43)).alloc (.cells ngZ.cells.toArray 43) = w2 at *
 obtain ⟨R, hR⟩ : ∃ R, w.heap.size + 1 = R := ⟨_, rfl⟩
 have HG : Hid (w.grownBy (w2.setRow R ((⟨x.kind, 0, 0, 0, 0, 0, x.side, j0 16, 0⟩ : Ng)).cells.toArray) none) := D7 h3 R _ (.inr (by omega))
 rw [hR] at h2 ⊢
 have V2 := h2.vat
 have HV : Hid (VAt w2 R 43 ngZ.cells.toArray) := V2
 clear h1 h2 hR HBX hX X h3
 generalize w.heap.size = B at *
 go_wp2_with (refine wpList_store_row rfl 43 (.tmp 2) (.tmp 7) rfl R ((⟨x.kind, 0, 0, 0, 0, 0, x.side, j0 16, 0⟩ : Ng)).cells.toArray rfl rfl 43 _ V2 HZ.out.1 HZ.out.2.1 HZ.out.2.2 ?_)
 refine bodyPost_ret (results_cell_row rfl _ _ R 43 _ (0, 0) _ rfl (HV.out.setRow _) Tryz.underlying43 rfl HZ.out.1) rfl ?_
 exact ⟨rfl, HG.out⟩
theorem b0y (x : Ng) (w : World) (h : x.kind = 13) : Calls Tryz.prog 67 #[.agg x.cells.toArray] w fun e w' => e = .returned (.agg (j6 x).cells.toArray) ∧ w.grownBy w' none := by
 have hu : j6 x = (⟨x.kind, 0, x.n, 0, 0, x.of, 0, j0 16, 0⟩ : Ng) := by
  unfold j6
  repeat' split
  all_goals first | rfl | omega
 rw [hu]
 clear hu h
 have HBX := D0 x
 obtain ⟨h1, h2, h3⟩ := a1B w x
 have HZ : Hid ((Tryz.prog.info? 43).map (·.size) = some ((⟨x.kind, 0, x.n, 0, 0, x.of, 0, j0 16, 0⟩ : Ng)).cells.toArray.size ∧ ngZ.cells.toArray.size = ((⟨x.kind, 0, x.n, 0, 0, x.of, 0, j0 16, 0⟩ : Ng)).cells.toArray.size ∧ ((⟨x.kind, 0, x.n, 0, 0, x.of, 0, j0 16, 0⟩ : Ng)).cells.toArray.all (·.oneCell') = true) := ⟨J3 _, rfl, Z8 _⟩
 have c0 := h1.kind
 have c5 := h1.of
 have c2 := h1.n
 obtain ⟨X, hX⟩ : ∃ X, x.cells.toArray = X := ⟨_, rfl⟩
 rw [hX] at HBX ⊢
 go_enter Tryz.func67, Tryz.ntmps67
 go_upto_region 1 with fail
 rw [← hX] at *
 rw [show #[.int .i64 0, .int .i64 0, .int .u32 0, .int .u32 0, .int .i64 0, .int .i64 0, .int .i64 0, .int .u8 0, .int .u8 0, .int .u8 0, .int .u8 0, .int .u8 0, .int .u8 0, .int .u8 0, .int .u8 0, .int .u8 0, .int .u8 0, .int .u8 0, .int .u8 0, .int .u8 0, .int .u8 0, .int .u8 0, .int .u8 0, .int .i64 0] = ngZ.cells.toArray from rfl]
 generalize (w.alloc (.cells x.cells.toArray 43)).alloc (.cells ngZ.cells.toArray 43) = w2 at *
 obtain ⟨R, hR⟩ : ∃ R, w.heap.size + 1 = R := ⟨_, rfl⟩
 have HG : Hid (w.grownBy (w2.setRow R ((⟨x.kind, 0, x.n, 0, 0, x.of, 0, j0 16, 0⟩ : Ng)).cells.toArray) none) := D7 h3 R _ (.inr (by omega))
 rw [hR] at h2 ⊢
 have V2 := h2.vat
 have HV : Hid (VAt w2 R 43 ngZ.cells.toArray) := V2
 clear h1 h2 hR HBX hX X h3
 generalize w.heap.size = B at *
 go_wp2_with (refine wpList_store_row rfl 43 (.tmp 2) (.tmp 9) rfl R ((⟨x.kind, 0, x.n, 0, 0, x.of, 0, j0 16, 0⟩ : Ng)).cells.toArray rfl rfl 43 _ V2 HZ.out.1 HZ.out.2.1 HZ.out.2.2 ?_)
 refine bodyPost_ret (results_cell_row rfl _ _ R 43 _ (0, 0) _ rfl (HV.out.setRow _) Tryz.underlying43 rfl HZ.out.1) rfl ?_
 exact ⟨rfl, HG.out⟩
theorem b0z (x : Ng) (w : World) (h : x.kind = 3) : Calls Tryz.prog 54 #[.agg x.cells.toArray] w fun e w' => e = .returned (.agg (j6 x).cells.toArray) ∧ w.grownBy w' none := by
 have hu : j6 x = (⟨x.kind, 0, 0, 0, x.size, x.of, 0, j0 16, 0⟩ : Ng) := by
  unfold j6
  repeat' split
  all_goals first | rfl | omega
 rw [hu]
 clear hu h
 have HBX := D0 x
 obtain ⟨h1, h2, h3⟩ := a1B w x
 have HZ : Hid ((Tryz.prog.info? 43).map (·.size) = some ((⟨x.kind, 0, 0, 0, x.size, x.of, 0, j0 16, 0⟩ : Ng)).cells.toArray.size ∧ ngZ.cells.toArray.size = ((⟨x.kind, 0, 0, 0, x.size, x.of, 0, j0 16, 0⟩ : Ng)).cells.toArray.size ∧ ((⟨x.kind, 0, 0, 0, x.size, x.of, 0, j0 16, 0⟩ : Ng)).cells.toArray.all (·.oneCell') = true) := ⟨J3 _, rfl, Z8 _⟩
 have c0 := h1.kind
 have c5 := h1.of
 have c4 := h1.size
 obtain ⟨X, hX⟩ : ∃ X, x.cells.toArray = X := ⟨_, rfl⟩
 rw [hX] at HBX ⊢
 go_enter Tryz.func54, Tryz.ntmps54
 go_upto_region 1 with fail
 rw [← hX] at *
 rw [show #[.int .i64 0, .int .i64 0, .int .u32 0, .int .u32 0, .int .i64 0, .int .i64 0, .int .i64 0, .int .u8 0, .int .u8 0, .int .u8 0, .int .u8 0, .int .u8 0, .int .u8 0, .int .u8 0, .int .u8 0, .int .u8 0, .int .u8 0, .int .u8 0, .int .u8 0, .int .u8 0, .int .u8 0, .int .u8 0, .int .u8 0, .int .i64 0] = ngZ.cells.toArray from rfl]
 generalize (w.alloc (.cells x.cells.toArray 43)).alloc (.cells ngZ.cells.toArray 43) = w2 at *
 obtain ⟨R, hR⟩ : ∃ R, w.heap.size + 1 = R := ⟨_, rfl⟩
 have HG : Hid (w.grownBy (w2.setRow R ((⟨x.kind, 0, 0, 0, x.size, x.of, 0, j0 16, 0⟩ : Ng)).cells.toArray) none) := D7 h3 R _ (.inr (by omega))
 rw [hR] at h2 ⊢
 have V2 := h2.vat
 have HV : Hid (VAt w2 R 43 ngZ.cells.toArray) := V2
 clear h1 h2 hR HBX hX X h3
 generalize w.heap.size = B at *
 go_wp2_with (refine wpList_store_row rfl 43 (.tmp 2) (.tmp 9) rfl R ((⟨x.kind, 0, 0, 0, x.size, x.of, 0, j0 16, 0⟩ : Ng)).cells.toArray rfl rfl 43 _ V2 HZ.out.1 HZ.out.2.1 HZ.out.2.2 ?_)
 refine bodyPost_ret (results_cell_row rfl _ _ R 43 _ (0, 0) _ rfl (HV.out.setRow _) Tryz.underlying43 rfl HZ.out.1) rfl ?_
 exact ⟨rfl, HG.out⟩
theorem b0w (x : Ng) (w : World) (h : x.kind = 14) : Calls Tryz.prog 71 #[.agg x.cells.toArray] w fun e w' => e = .returned (.agg (j6 x).cells.toArray) ∧ w.grownBy w' none := by
 have hu : j6 x = (⟨x.kind, 0, 0, 0, 0, x.of, x.side, x.addr, 0⟩ : Ng) := by
  unfold j6
  repeat' split
  all_goals first | rfl | omega
 rw [hu]
 clear hu h
 have HBX := D0 x
 obtain ⟨h1, h2, h3⟩ := a1B w x
 have HZ : Hid ((Tryz.prog.info? 43).map (·.size) = some ((⟨x.kind, 0, 0, 0, 0, x.of, x.side, x.addr, 0⟩ : Ng)).cells.toArray.size ∧ ngZ.cells.toArray.size = ((⟨x.kind, 0, 0, 0, 0, x.of, x.side, x.addr, 0⟩ : Ng)).cells.toArray.size ∧ ((⟨x.kind, 0, 0, 0, 0, x.of, x.side, x.addr, 0⟩ : Ng)).cells.toArray.all (·.oneCell') = true) := ⟨J3 _, rfl, Z8 _⟩
 have c0 := h1.kind
 have c5 := h1.of
 have c6 := h1.side
 have HA : Hid (World.rangeAt _ _ 7 ((m3 x).map bv)) := h1.addr
 have HS : Hid ((Tryz.prog.info? 41).map (·.size) = some ((m3 x).map bv).length) := a5r x
 obtain ⟨X, hX⟩ : ∃ X, x.cells.toArray = X := ⟨_, rfl⟩
 rw [hX] at HBX ⊢
 rw [a7J] at HA HS
 go_enter Tryz.func71, Tryz.ntmps71
 go_upto_region 1 with fail
 rw [← hX] at *
 rw [show #[.int .i64 0, .int .i64 0, .int .u32 0, .int .u32 0, .int .i64 0, .int .i64 0, .int .i64 0, .int .u8 0, .int .u8 0, .int .u8 0, .int .u8 0, .int .u8 0, .int .u8 0, .int .u8 0, .int .u8 0, .int .u8 0, .int .u8 0, .int .u8 0, .int .u8 0, .int .u8 0, .int .u8 0, .int .u8 0, .int .u8 0, .int .i64 0] = ngZ.cells.toArray from rfl]
 generalize (w.alloc (.cells x.cells.toArray 43)).alloc (.cells ngZ.cells.toArray 43) = w2 at *
 obtain ⟨R, hR⟩ : ∃ R, w.heap.size + 1 = R := ⟨_, rfl⟩
 have HG : Hid (w.grownBy (w2.setRow R ((⟨x.kind, 0, 0, 0, 0, x.of, x.side, x.addr, 0⟩ : Ng)).cells.toArray) none) := D7 h3 R _ (.inr (by omega))
 rw [hR] at h2 ⊢
 have V2 := h2.vat
 have HV : Hid (VAt w2 R 43 ngZ.cells.toArray) := V2
 clear h1 h2 hR HBX hX X h3
 generalize w.heap.size = B at *
 go_wp2_with (first | refine wpList_load_mid rfl 41 (.tmp 9) rfl B 7 rfl _ _ HA.out Tryz.underlying41 rfl HS.out ?_ | refine wpList_store_row rfl 43 (.tmp 2) (.tmp 11) rfl R ((⟨x.kind, 0, 0, 0, 0, x.of, x.side, x.addr, 0⟩ : Ng)).cells.toArray rfl rfl 43 _ V2 HZ.out.1 HZ.out.2.1 HZ.out.2.2 ?_)
 refine bodyPost_ret (results_cell_row rfl _ _ R 43 _ (0, 0) _ rfl (HV.out.setRow _) Tryz.underlying43 rfl HZ.out.1) rfl ?_
 exact ⟨rfl, HG.out⟩
theorem b0x (x : Ng) (w : World) (h : x.kind = 15) : Calls Tryz.prog 73 #[.agg x.cells.toArray] w fun e w' => e = .returned (.agg (j6 x).cells.toArray) ∧ w.grownBy w' none := by
 have hu : j6 x = (⟨x.kind, 0, 0, 0, 0, x.of, x.side, x.addr, x.bits⟩ : Ng) := by
  unfold j6
  repeat' split
  all_goals first | rfl | omega
 rw [hu]
 clear hu h
 have HBX := D0 x
 obtain ⟨h1, h2, h3⟩ := a1B w x
 have HZ : Hid ((Tryz.prog.info? 43).map (·.size) = some ((⟨x.kind, 0, 0, 0, 0, x.of, x.side, x.addr, x.bits⟩ : Ng)).cells.toArray.size ∧ ngZ.cells.toArray.size = ((⟨x.kind, 0, 0, 0, 0, x.of, x.side, x.addr, x.bits⟩ : Ng)).cells.toArray.size ∧ ((⟨x.kind, 0, 0, 0, 0, x.of, x.side, x.addr, x.bits⟩ : Ng)).cells.toArray.all (·.oneCell') = true) := ⟨J3 _, rfl, Z8 _⟩
 have c0 := h1.kind
 have c5 := h1.of
 have c6 := h1.side
 have c8 := h1.bits
 have HA : Hid (World.rangeAt _ _ 7 ((m3 x).map bv)) := h1.addr
 have HS : Hid ((Tryz.prog.info? 41).map (·.size) = some ((m3 x).map bv).length) := a5r x
 obtain ⟨X, hX⟩ : ∃ X, x.cells.toArray = X := ⟨_, rfl⟩
 rw [hX] at HBX ⊢
 rw [a7J] at HA HS
 go_enter Tryz.func73, Tryz.ntmps73
 go_upto_region 1 with fail
 rw [← hX] at *
 rw [show #[.int .i64 0, .int .i64 0, .int .u32 0, .int .u32 0, .int .i64 0, .int .i64 0, .int .i64 0, .int .u8 0, .int .u8 0, .int .u8 0, .int .u8 0, .int .u8 0, .int .u8 0, .int .u8 0, .int .u8 0, .int .u8 0, .int .u8 0, .int .u8 0, .int .u8 0, .int .u8 0, .int .u8 0, .int .u8 0, .int .u8 0, .int .i64 0] = ngZ.cells.toArray from rfl]
 generalize (w.alloc (.cells x.cells.toArray 43)).alloc (.cells ngZ.cells.toArray 43) = w2 at *
 obtain ⟨R, hR⟩ : ∃ R, w.heap.size + 1 = R := ⟨_, rfl⟩
 have HG : Hid (w.grownBy (w2.setRow R ((⟨x.kind, 0, 0, 0, 0, x.of, x.side, x.addr, x.bits⟩ : Ng)).cells.toArray) none) := D7 h3 R _ (.inr (by omega))
 rw [hR] at h2 ⊢
 have V2 := h2.vat
 have HV : Hid (VAt w2 R 43 ngZ.cells.toArray) := V2
 clear h1 h2 hR HBX hX X h3
 generalize w.heap.size = B at *
 go_wp2_with (first | refine wpList_load_mid rfl 41 (.tmp 9) rfl B 7 rfl _ _ HA.out Tryz.underlying41 rfl HS.out ?_ | refine wpList_store_row rfl 43 (.tmp 2) (.tmp 13) rfl R ((⟨x.kind, 0, 0, 0, 0, x.of, x.side, x.addr, x.bits⟩ : Ng)).cells.toArray rfl rfl 43 _ V2 HZ.out.1 HZ.out.2.1 HZ.out.2.2 ?_)
 refine bodyPost_ret (results_cell_row rfl _ _ R 43 _ (0, 0) _ rfl (HV.out.setRow _) Tryz.underlying43 rfl HZ.out.1) rfl ?_
 exact ⟨rfl, HG.out⟩
theorem b0B (x : Ng) (w : World) (h : x.kind = 16) : Calls Tryz.prog 75 #[.agg x.cells.toArray] w fun e w' => e = .returned (.agg (j6 x).cells.toArray) ∧ w.grownBy w' none := by
 have hu : j6 x = (⟨x.kind, 0, x.n, x.m, 0, x.of, x.side, j0 16, 0⟩ : Ng) := by
  unfold j6
  repeat' split
  all_goals first | rfl | omega
 rw [hu]
 clear hu h
 have HBX := D0 x
 obtain ⟨h1, h2, h3⟩ := a1B w x
 have HZ : Hid ((Tryz.prog.info? 43).map (·.size) = some ((⟨x.kind, 0, x.n, x.m, 0, x.of, x.side, j0 16, 0⟩ : Ng)).cells.toArray.size ∧ ngZ.cells.toArray.size = ((⟨x.kind, 0, x.n, x.m, 0, x.of, x.side, j0 16, 0⟩ : Ng)).cells.toArray.size ∧ ((⟨x.kind, 0, x.n, x.m, 0, x.of, x.side, j0 16, 0⟩ : Ng)).cells.toArray.all (·.oneCell') = true) := ⟨J3 _, rfl, Z8 _⟩
 have c0 := h1.kind
 have c5 := h1.of
 have c6 := h1.side
 have c2 := h1.n
 have c3 := h1.m
 obtain ⟨X, hX⟩ : ∃ X, x.cells.toArray = X := ⟨_, rfl⟩
 rw [hX] at HBX ⊢
 go_enter Tryz.func75, Tryz.ntmps75
 go_upto_region 1 with fail
 rw [← hX] at *
 rw [show #[.int .i64 0, .int .i64 0, .int .u32 0, .int .u32 0, .int .i64 0, .int .i64 0, .int .i64 0, .int .u8 0, .int .u8 0, .int .u8 0, .int .u8 0, .int .u8 0, .int .u8 0, .int .u8 0, .int .u8 0, .int .u8 0, .int .u8 0, .int .u8 0, .int .u8 0, .int .u8 0, .int .u8 0, .int .u8 0, .int .u8 0, .int .i64 0] = ngZ.cells.toArray from rfl]
 generalize (w.alloc (.cells x.cells.toArray 43)).alloc (.cells ngZ.cells.toArray 43) = w2 at *
 obtain ⟨R, hR⟩ : ∃ R, w.heap.size + 1 = R := ⟨_, rfl⟩
 have HG : Hid (w.grownBy (w2.setRow R ((⟨x.kind, 0, x.n, x.m, 0, x.of, x.side, j0 16, 0⟩ : Ng)).cells.toArray) none) := D7 h3 R _ (.inr (by omega))
 rw [hR] at h2 ⊢
 have V2 := h2.vat
 have HV : Hid (VAt w2 R 43 ngZ.cells.toArray) := V2
 clear h1 h2 hR HBX hX X h3
 generalize w.heap.size = B at *
 go_wp2_with (refine wpList_store_row rfl 43 (.tmp 2) (.tmp 13) rfl R ((⟨x.kind, 0, x.n, x.m, 0, x.of, x.side, j0 16, 0⟩ : Ng)).cells.toArray rfl rfl 43 _ V2 HZ.out.1 HZ.out.2.1 HZ.out.2.2 ?_)
 refine bodyPost_ret (results_cell_row rfl _ _ R 43 _ (0, 0) _ rfl (HV.out.setRow _) Tryz.underlying43 rfl HZ.out.1) rfl ?_
 exact ⟨rfl, HG.out⟩
theorem a1V (v lo hi : Int) (w : World) : Calls Tryz.prog 107 #[.int .i64 v, .int .i64 lo, .int .i64 hi] w fun e w' => e = .returned (.bool (inG v lo hi)) ∧ w = w' := by
 unfold inG
 by_cases h1 : lo ≤ v
 ·by_cases h2 : v ≤ hi
  ·rw [decide_eq_true h1, decide_eq_true h2]
   go_enter Tryz.func107, Tryz.ntmps107
   go_wp2
   go_ret
   exact ⟨rfl, rfl⟩
  ·rw [decide_eq_true h1, decide_eq_false h2]
   go_enter Tryz.func107, Tryz.ntmps107
   go_wp2
   go_ret
   exact ⟨rfl, rfl⟩
 ·rw [decide_eq_false h1]
  go_enter Tryz.func107, Tryz.ntmps107
  go_wp2
  go_ret
  exact ⟨rfl, rfl⟩
theorem aE7 (x : Ng) (w : World) : Calls Tryz.prog 55 #[.agg x.cells.toArray] w fun e w' => e = .returned (.bool (inG x.of 1 12)) ∧ w.grownBy w' none := by
 have HBX := D0 x
 have h1 := NB.alloc w x
 have h3 := World.grownBy_alloc w (.cells x.cells.toArray 43) none
 have c5 := h1.of
 obtain ⟨X, hX⟩ : ∃ X, x.cells.toArray = X := ⟨_, rfl⟩
 rw [hX] at HBX ⊢
 go_enter Tryz.func55, Tryz.ntmps55
 go_upto_region 1 with fail
 rw [← hX] at *
 generalize w.alloc (.cells x.cells.toArray 43) = w1 at *
 generalize w.heap.size = B at *
 clear HBX hX X
 go_wp2_with fail
 refine (a1V _ _ _ _).mono ?_
 rintro e w' ⟨rfl, rfl⟩
 go_wp2
 go_ret
 exact ⟨rfl, h3⟩
theorem aF1 (x : Ng) (w : World) : Calls Tryz.prog 58 #[.agg x.cells.toArray] w fun e w' => e = .returned (.bool (inG x.op 1 10)) ∧ w.grownBy w' none := by
 have HBX := D0 x
 have h1 := NB.alloc w x
 have h3 := World.grownBy_alloc w (.cells x.cells.toArray 43) none
 have c1 := h1.op
 obtain ⟨X, hX⟩ : ∃ X, x.cells.toArray = X := ⟨_, rfl⟩
 rw [hX] at HBX ⊢
 go_enter Tryz.func58, Tryz.ntmps58
 go_upto_region 1 with fail
 rw [← hX] at *
 generalize w.alloc (.cells x.cells.toArray 43) = w1 at *
 generalize w.heap.size = B at *
 clear HBX hX X
 go_wp2_with fail
 refine (a1V _ _ _ _).mono ?_
 rintro e w' ⟨rfl, rfl⟩
 go_wp2
 go_ret
 exact ⟨rfl, h3⟩
theorem aE5 (x : Ng) (w : World) : Calls Tryz.prog 61 #[.agg x.cells.toArray] w fun e w' => e = .returned (.bool (inG x.op 1 6)) ∧ w.grownBy w' none := by
 have HBX := D0 x
 have h1 := NB.alloc w x
 have h3 := World.grownBy_alloc w (.cells x.cells.toArray 43) none
 have c1 := h1.op
 obtain ⟨X, hX⟩ : ∃ X, x.cells.toArray = X := ⟨_, rfl⟩
 rw [hX] at HBX ⊢
 go_enter Tryz.func61, Tryz.ntmps61
 go_upto_region 1 with fail
 rw [← hX] at *
 generalize w.alloc (.cells x.cells.toArray 43) = w1 at *
 generalize w.heap.size = B at *
 clear HBX hX X
 go_wp2_with fail
 refine (a1V _ _ _ _).mono ?_
 rintro e w' ⟨rfl, rfl⟩
 go_wp2
 go_ret
 exact ⟨rfl, h3⟩
theorem aE6 (x : Ng) (w : World) : Calls Tryz.prog 63 #[.agg x.cells.toArray] w fun e w' => e = .returned (.bool (inG x.side 1 2)) ∧ w.grownBy w' none := by
 have HBX := D0 x
 have h1 := NB.alloc w x
 have h3 := World.grownBy_alloc w (.cells x.cells.toArray 43) none
 have c6 := h1.side
 obtain ⟨X, hX⟩ : ∃ X, x.cells.toArray = X := ⟨_, rfl⟩
 rw [hX] at HBX ⊢
 go_enter Tryz.func63, Tryz.ntmps63
 go_upto_region 1 with fail
 rw [← hX] at *
 generalize w.alloc (.cells x.cells.toArray 43) = w1 at *
 generalize w.heap.size = B at *
 clear HBX hX X
 go_wp2_with fail
 refine (a1V _ _ _ _).mono ?_
 rintro e w' ⟨rfl, rfl⟩
 go_wp2
 go_ret
 exact ⟨rfl, h3⟩
theorem aE9 (x : Ng) (w : World) : Calls Tryz.prog 65 #[.agg x.cells.toArray] w fun e w' => e = .returned (.bool (inG x.of 2 13)) ∧ w.grownBy w' none := by
 have HBX := D0 x
 have h1 := NB.alloc w x
 have h3 := World.grownBy_alloc w (.cells x.cells.toArray 43) none
 have c5 := h1.of
 obtain ⟨X, hX⟩ : ∃ X, x.cells.toArray = X := ⟨_, rfl⟩
 rw [hX] at HBX ⊢
 go_enter Tryz.func65, Tryz.ntmps65
 go_upto_region 1 with fail
 rw [← hX] at *
 generalize w.alloc (.cells x.cells.toArray 43) = w1 at *
 generalize w.heap.size = B at *
 clear HBX hX X
 go_wp2_with fail
 refine (a1V _ _ _ _).mono ?_
 rintro e w' ⟨rfl, rfl⟩
 go_wp2
 go_ret
 exact ⟨rfl, h3⟩
theorem a9q (x : Ng) (w : World) : Calls Tryz.prog 68 #[.agg x.cells.toArray] w fun e w' => e = .returned (.bool (inG x.of 2 3)) ∧ w.grownBy w' none := by
 have HBX := D0 x
 have h1 := NB.alloc w x
 have h3 := World.grownBy_alloc w (.cells x.cells.toArray 43) none
 have c5 := h1.of
 obtain ⟨X, hX⟩ : ∃ X, x.cells.toArray = X := ⟨_, rfl⟩
 rw [hX] at HBX ⊢
 go_enter Tryz.func68, Tryz.ntmps68
 go_upto_region 1 with fail
 rw [← hX] at *
 generalize w.alloc (.cells x.cells.toArray 43) = w1 at *
 generalize w.heap.size = B at *
 clear HBX hX X
 go_wp2_with fail
 refine (a1V _ _ _ _).mono ?_
 rintro e w' ⟨rfl, rfl⟩
 go_wp2
 go_ret
 exact ⟨rfl, h3⟩
theorem a9r (x : Ng) (w : World) : Calls Tryz.prog 113 #[.agg x.cells.toArray] w fun e w' => e = .returned (.bool (inG x.side 0 2)) ∧ w.grownBy w' none := by
 have HBX := D0 x
 have h1 := NB.alloc w x
 have h3 := World.grownBy_alloc w (.cells x.cells.toArray 43) none
 have c6 := h1.side
 obtain ⟨X, hX⟩ : ∃ X, x.cells.toArray = X := ⟨_, rfl⟩
 rw [hX] at HBX ⊢
 go_enter Tryz.func113, Tryz.ntmps113
 go_upto_region 1 with fail
 rw [← hX] at *
 generalize w.alloc (.cells x.cells.toArray 43) = w1 at *
 generalize w.heap.size = B at *
 clear HBX hX X
 go_wp2_with fail
 refine (a1V _ _ _ _).mono ?_
 rintro e w' ⟨rfl, rfl⟩
 go_wp2
 go_ret
 exact ⟨rfl, h3⟩
theorem a2o (x : Ng) (w : World) : Calls Tryz.prog 49 #[.agg x.cells.toArray] w fun e w' => e = .returned (.bool true) ∧ w.grownBy w' none := by
 have HBX := D0 x
 have h1 := NB.alloc w x
 have h3 := World.grownBy_alloc w (.cells x.cells.toArray 43) none
 obtain ⟨X, hX⟩ : ∃ X, x.cells.toArray = X := ⟨_, rfl⟩
 rw [hX] at HBX ⊢
 go_enter Tryz.func49, Tryz.ntmps49
 go_upto_region 1 with fail
 rw [← hX] at *
 generalize w.alloc (.cells x.cells.toArray 43) = w1 at *
 generalize w.heap.size = B at *
 clear HBX hX X
 go_wp2
 go_ret
 exact ⟨rfl, h3⟩
theorem a1r (x : Ng) (w : World) : Calls Tryz.prog 50 #[.agg x.cells.toArray] w fun e w' => e = .returned (.int .i64 0) ∧ w.grownBy w' none := by
 have HBX := D0 x
 have h1 := NB.alloc w x
 have h3 := World.grownBy_alloc w (.cells x.cells.toArray 43) none
 obtain ⟨X, hX⟩ : ∃ X, x.cells.toArray = X := ⟨_, rfl⟩
 rw [hX] at HBX ⊢
 go_enter Tryz.func50, Tryz.ntmps50
 go_upto_region 1 with fail
 rw [← hX] at *
 generalize w.alloc (.cells x.cells.toArray 43) = w1 at *
 generalize w.heap.size = B at *
 clear HBX hX X
 go_wp2
 go_ret
 exact ⟨rfl, h3⟩
theorem a1n (b : Bool) (w : World) : Calls Tryz.prog 108 #[.bool b] w fun e w' => e = .returned (.int .i64 (if b = true then 0 else 124)) ∧ w = w' := by
 cases b with
 | true =>
  go_enter Tryz.func108, Tryz.ntmps108
  go_wp2
  go_ret
  exact ⟨rfl, rfl⟩
 | false =>
  go_enter Tryz.func108, Tryz.ntmps108
  go_wp2
  go_ret
  exact ⟨rfl, rfl⟩
theorem a5J {P : Program} {ops : Array Oper} {rest : List Oper} {o : Oper} {a : Act} {w : World} {Q : Exit → Act → World → Prop} (hw : Region.wanted o (yielded ops a.tmps) = true) (ty : TypeId) (x : Operand) (ho : o.op = .load ty x)
  (g : Nat) (hx : a.eval x = .pointer (some ⟨g, 0, none⟩)) (t : TypeId) (cs : Array Value) (fr : Nat × Nat) (d : TypeDesc) (A : w.heap[g]? = some (.cells cs t fr))
  (hu : P.underlying ty = some d) (hd : (match d with | .struct _ | .array _ _ => true | _ => false) = true) (hi : (P.info? ty).map (·.size) = some cs.size)
  (h : wpList P ops Q rest (a.put o.dst (.agg cs)) w) : wpList P ops Q (o :: rest) a w := by
 refine BigFrame.wpList_want hw fun K hK => ?_
 unfold Oper.wp execOp
 simp only [ho, hx, Instr.loadAt, Instr.sureAddr, Sem.run_bind, Sem.run_pure, Result.andThen_ok, run_loadVar_row w g t ty cs fr d A hu hd hi]
 exact hK _ _ h
theorem am5 (x : Ng) (w : World) : Calls Tryz.prog 56 #[.agg x.cells.toArray] w fun e w' => e = .returned (.int .i64 (if x.size = 1 ∨ x.size = 2 ∨ x.size = 4 then 0 else 124)) ∧ w.grownBy w' none := by
 obtain ⟨E, hE⟩ : ∃ E : Int, (if x.size = 1 ∨ x.size = 2 ∨ x.size = 4 then 0 else 124) = E := ⟨_, rfl⟩
 rw [hE]
 have HE : Hid ((if x.size = 1 ∨ x.size = 2 ∨ x.size = 4 then 0 else 124) = E) := hE
 clear hE
 have HBX := D0 x
 have h1 := NB.alloc w x
 have h3 := World.grownBy_alloc w (.cells x.cells.toArray 43) none
 have c4 := h1.size
 obtain ⟨X, hX⟩ : ∃ X, x.cells.toArray = X := ⟨_, rfl⟩
 rw [hX] at HBX ⊢
 go_enter Tryz.func56, Tryz.ntmps56
 go_upto_region 1 with fail
 rw [← hX] at *
 generalize w.alloc (.cells x.cells.toArray 43) = w1 at *
 generalize w.heap.size = B at *
 clear HBX hX X
 by_cases q1 : x.size = 1
 ·have HQ : Hid (x.size = 1 ∨ x.size = 2 ∨ x.size = 4) := (.inl q1)
  have e1 : (x.size == 1) = true := by simpa using q1
  clear q1
  go_wp2_with fail
  refine (a1n _ _).mono ?_
  rintro e w' ⟨rfl, rfl⟩
  go_wp2
  go_ret
  exact ⟨P7 (by rw [← HE.out, if_pos HQ.out]), h3⟩
 ·have e1 : (x.size == 1) = false := by simpa using q1
  by_cases q2 : x.size = 2
  ·have HQ : Hid (x.size = 1 ∨ x.size = 2 ∨ x.size = 4) := (.inr (.inl q2))
   have e2 : (x.size == 2) = true := by simpa using q2
   clear q1 q2
   go_wp2_with fail
   refine (a1n _ _).mono ?_
   rintro e w' ⟨rfl, rfl⟩
   go_wp2
   go_ret
   exact ⟨P7 (by rw [← HE.out, if_pos HQ.out]), h3⟩
  ·have e2 : (x.size == 2) = false := by simpa using q2
   by_cases q3 : x.size = 4
   ·have HQ : Hid (x.size = 1 ∨ x.size = 2 ∨ x.size = 4) := (.inr (.inr q3))
    have e3 : (x.size == 4) = true := by simpa using q3
    clear q1 q2 q3
    go_wp2_with fail
    refine (a1n _ _).mono ?_
    rintro e w' ⟨rfl, rfl⟩
    go_wp2
    go_ret
    exact ⟨P7 (by rw [← HE.out, if_pos HQ.out]), h3⟩
   ·have HQ : Hid (¬ (x.size = 1 ∨ x.size = 2 ∨ x.size = 4)) := (fun h => by omega)
    have e3 : (x.size == 4) = false := by simpa using q3
    clear q1 q2 q3
    go_wp2_with fail
    refine (a1n _ _).mono ?_
    rintro e w' ⟨rfl, rfl⟩
    go_wp2
    go_ret
    exact ⟨P7 (by rw [← HE.out, if_neg HQ.out]), h3⟩
theorem am9 (x : Ng) (w : World) : Calls Tryz.prog 66 #[.agg x.cells.toArray] w fun e w' => e = .returned (.int .i64 (if x.n ≤ 65535 then 0 else 124)) ∧ w.grownBy w' none := by
 obtain ⟨E, hE⟩ : ∃ E : Int, (if x.n ≤ 65535 then 0 else 124) = E := ⟨_, rfl⟩
 rw [hE]
 have HE : Hid ((if x.n ≤ 65535 then 0 else 124) = E) := hE
 clear hE
 have HBX := D0 x
 have h1 := NB.alloc w x
 have h3 := World.grownBy_alloc w (.cells x.cells.toArray 43) none
 have c2 := h1.n
 obtain ⟨X, hX⟩ : ∃ X, x.cells.toArray = X := ⟨_, rfl⟩
 rw [hX] at HBX ⊢
 go_enter Tryz.func66, Tryz.ntmps66
 go_upto_region 1 with fail
 rw [← hX] at *
 generalize w.alloc (.cells x.cells.toArray 43) = w1 at *
 generalize w.heap.size = B at *
 clear HBX hX X
 by_cases q1 : x.n ≤ 65535
 ·have HQ : Hid (x.n ≤ 65535) := q1
  have e1 : decide ((x.n : Int) ≤ 65535) = true := decide_eq_true (by omega)
  clear q1
  go_wp2_with fail
  refine (a1n _ _).mono ?_
  rintro e w' ⟨rfl, rfl⟩
  go_wp2
  go_ret
  exact ⟨P7 (by rw [← HE.out, if_pos HQ.out]), h3⟩
 ·have HQ : Hid (¬ (x.n ≤ 65535)) := q1
  have e1 : decide ((x.n : Int) ≤ 65535) = false := decide_eq_false (by omega)
  clear q1
  go_wp2_with fail
  refine (a1n _ _).mono ?_
  rintro e w' ⟨rfl, rfl⟩
  go_wp2
  go_ret
  exact ⟨P7 (by rw [← HE.out, if_neg HQ.out]), h3⟩
theorem am7 (x : Ng) (w : World) : Calls Tryz.prog 69 #[.agg x.cells.toArray] w fun e w' => e = .returned (.int .i64 (if x.n ≤ 255 then 0 else 124)) ∧ w.grownBy w' none := by
 obtain ⟨E, hE⟩ : ∃ E : Int, (if x.n ≤ 255 then 0 else 124) = E := ⟨_, rfl⟩
 rw [hE]
 have HE : Hid ((if x.n ≤ 255 then 0 else 124) = E) := hE
 clear hE
 have HBX := D0 x
 have h1 := NB.alloc w x
 have h3 := World.grownBy_alloc w (.cells x.cells.toArray 43) none
 have c2 := h1.n
 obtain ⟨X, hX⟩ : ∃ X, x.cells.toArray = X := ⟨_, rfl⟩
 rw [hX] at HBX ⊢
 go_enter Tryz.func69, Tryz.ntmps69
 go_upto_region 1 with fail
 rw [← hX] at *
 generalize w.alloc (.cells x.cells.toArray 43) = w1 at *
 generalize w.heap.size = B at *
 clear HBX hX X
 by_cases q1 : x.n ≤ 255
 ·have HQ : Hid (x.n ≤ 255) := q1
  have e1 : decide ((x.n : Int) ≤ 255) = true := decide_eq_true (by omega)
  clear q1
  go_wp2_with fail
  refine (a1n _ _).mono ?_
  rintro e w' ⟨rfl, rfl⟩
  go_wp2
  go_ret
  exact ⟨P7 (by rw [← HE.out, if_pos HQ.out]), h3⟩
 ·have HQ : Hid (¬ (x.n ≤ 255)) := q1
  have e1 : decide ((x.n : Int) ≤ 255) = false := decide_eq_false (by omega)
  clear q1
  go_wp2_with fail
  refine (a1n _ _).mono ?_
  rintro e w' ⟨rfl, rfl⟩
  go_wp2
  go_ret
  exact ⟨P7 (by rw [← HE.out, if_neg HQ.out]), h3⟩
theorem am8 (x : Ng) (w : World) : Calls Tryz.prog 77 #[.agg x.cells.toArray] w fun e w' => e = .returned (.int .i64 (if x.n ≤ x.m ∧ x.m ≤ 65535 then 0 else 124)) ∧ w.grownBy w' none := by
 obtain ⟨E, hE⟩ : ∃ E : Int, (if x.n ≤ x.m ∧ x.m ≤ 65535 then 0 else 124) = E := ⟨_, rfl⟩
 rw [hE]
 have HE : Hid ((if x.n ≤ x.m ∧ x.m ≤ 65535 then 0 else 124) = E) := hE
 clear hE
 have HBX := D0 x
 have h1 := NB.alloc w x
 have h3 := World.grownBy_alloc w (.cells x.cells.toArray 43) none
 have c2 := h1.n
 have c3 := h1.m
 obtain ⟨X, hX⟩ : ∃ X, x.cells.toArray = X := ⟨_, rfl⟩
 rw [hX] at HBX ⊢
 go_enter Tryz.func77, Tryz.ntmps77
 go_upto_region 1 with fail
 rw [← hX] at *
 generalize w.alloc (.cells x.cells.toArray 43) = w1 at *
 generalize w.heap.size = B at *
 clear HBX hX X
 by_cases q1 : x.n ≤ x.m
 ·have e1 : decide (x.n ≤ x.m) = true := decide_eq_true q1
  by_cases q2 : x.m ≤ 65535
  ·have HQ : Hid (x.n ≤ x.m ∧ x.m ≤ 65535) := ⟨q1, q2⟩
   have e2 : decide ((x.m : Int) ≤ 65535) = true := decide_eq_true (by omega)
   clear q1 q2
   go_wp2_with fail
   refine (a1n _ _).mono ?_
   rintro e w' ⟨rfl, rfl⟩
   go_wp2
   go_ret
   exact ⟨P7 (by rw [← HE.out, if_pos HQ.out]), h3⟩
  ·have HQ : Hid (¬ (x.n ≤ x.m ∧ x.m ≤ 65535)) := (fun h => q2 h.2)
   have e2 : decide ((x.m : Int) ≤ 65535) = false := decide_eq_false (by omega)
   clear q1 q2
   go_wp2_with fail
   refine (a1n _ _).mono ?_
   rintro e w' ⟨rfl, rfl⟩
   go_wp2
   go_ret
   exact ⟨P7 (by rw [← HE.out, if_neg HQ.out]), h3⟩
 ·have HQ : Hid (¬ (x.n ≤ x.m ∧ x.m ≤ 65535)) := (fun h => q1 h.1)
  have e1 : decide (x.n ≤ x.m) = false := decide_eq_false q1
  clear q1
  go_wp2_with fail
  refine (a1n _ _).mono ?_
  rintro e w' ⟨rfl, rfl⟩
  go_wp2
  go_ret
  exact ⟨P7 (by rw [← HE.out, if_neg HQ.out]), h3⟩
theorem aF0 (x : Ng) (w : World) : Calls Tryz.prog 76 #[.agg x.cells.toArray] w fun e w' => e = .returned (.bool ((x.of == 0 || inG x.of 4 5) && inG x.side 0 2)) ∧ w.grownBy w' none := by
 obtain ⟨E, hE⟩ : ∃ E : Bool, ((x.of == 0 || inG x.of 4 5) && inG x.side 0 2) = E := ⟨_, rfl⟩
 rw [hE]
 have HE : Hid (((x.of == 0 || inG x.of 4 5) && inG x.side 0 2) = E) := hE
 clear hE
 have HBX := D0 x
 have h1 := NB.alloc w x
 have h3 := World.grownBy_alloc w (.cells x.cells.toArray 43) none
 have c5 := h1.of
 obtain ⟨X, hX⟩ : ∃ X, x.cells.toArray = X := ⟨_, rfl⟩
 rw [hX] at HBX ⊢
 go_enter Tryz.func76, Tryz.ntmps76
 go_upto_region 1 with fail
 rw [← hX] at *
 generalize w.alloc (.cells x.cells.toArray 43) = w1 at *
 generalize w.heap.size = B at *
 clear HBX hX X
 have HL : Hid (NB w1 B x) := h1
 have HS : Hid (∀ W : World, Calls Tryz.prog 113 #[.agg x.cells.toArray] W fun e w' => e = .returned (.bool (inG x.side 0 2)) ∧ W.grownBy w' none) := fun W => a9r x W
 have HZ : Hid ((Tryz.prog.info? 43).map (·.size) = some x.cells.toArray.size) := J3 x
 have LV := h1.vat
 obtain ⟨X, hX⟩ : ∃ X, x.cells.toArray = X := ⟨_, rfl⟩
 rw [hX] at HS HZ LV
 clear hX h1
 cases q1 : (x.of == 0) with
 | true =>
  have HQ1 : Hid ((x.of == 0) = true) := q1
  go_wp2_with (refine a5J (by rfl) 43 (.tmp 1) rfl B rfl 43 X (0, 0) _ LV Tryz.underlying43 rfl HZ.out ?_)
  refine (HS.out _).mono ?_
  rintro e w2 ⟨rfl, K2⟩
  have G := d3 h3 K2
  clear K2
  go_wp2
  go_ret
  exact ⟨a08 (by rw [← HE.out]; simp [HQ1.out]), G⟩
 | false =>
  have HQ1 : Hid ((x.of == 0) = false) := q1
  cases q2 : inG x.of 4 5 with
  | true =>
   have HQ2 : Hid (inG x.of 4 5 = true) := q2
   go_wp2_with fail
   refine (a1V _ _ _ _).mono ?_
   rintro e w' ⟨rfl, rfl⟩
   rw [q2]
   go_wp2_with (refine a5J (by rfl) 43 (.tmp 1) rfl B rfl 43 X (0, 0) _ LV Tryz.underlying43 rfl HZ.out ?_)
   refine (HS.out _).mono ?_
   rintro e w2 ⟨rfl, K2⟩
   have G := d3 h3 K2
   clear K2
   go_wp2
   go_ret
   exact ⟨a08 (by rw [← HE.out]; simp [HQ1.out, HQ2.out]), G⟩
  | false =>
   have HQ2 : Hid (inG x.of 4 5 = false) := q2
   go_wp2_with fail
   refine (a1V _ _ _ _).mono ?_
   rintro e w' ⟨rfl, rfl⟩
   rw [q2]
   go_wp2
   go_ret
   exact ⟨a08 (by rw [← HE.out]; simp [HQ1.out, HQ2.out]), h3⟩
def ptC (p : Pt) : List Value := [.int .i64 (if p.truth = true then 0 else 1), .bool p.fixed, .int .u32 (p.val : Int)]
def pqC (p : Pt) : List Value := [.bool p.truth, .bool p.fixed, .int .u32 (p.val : Int)]
def z8 (c : Pt → List Value) (ps : List Pt) : List Value := ps.flatMap c
theorem at4 (c : Pt → List Value) : z8 c [] = [] := rfl
theorem a39 (c : Pt → List Value) (p : Pt) (ps : List Pt) : z8 c (p :: ps) = c p ++ z8 c ps := rfl
theorem a8B (c : Pt → List Value) (xs ys : List Pt) : z8 c (xs ++ ys) = z8 c xs ++ z8 c ys := by simp only [z8, List.flatMap_append]
theorem a8D (c : Pt → List Value) (p : Pt) : z8 c [p] = c p := by rw [a39, at4, List.append_nil]
theorem a6h {c : Pt → List Value} (hc : ∀ p, (c p).length = 3) (xs : List Pt) : (z8 c xs).length = xs.length * 3 := by
 induction xs with
 | nil => rfl
 | cons x xs ih => rw [a39, List.length_append, ih, List.length_cons, hc]; omega
theorem at3 {c : Pt → List Value} (hc : ∀ p, (c p).length = 3) (xs : List Pt) (i j : Nat) (hi : i < xs.length) (hj : j < 3) : (z8 c xs)[i * 3 + j]? = (c xs[i])[j]? := by
 induction xs generalizing i with
 | nil => simp at hi
 | cons x xs ih =>
  rw [a39]
  have hl := hc x
  cases i with
  | zero => rw [List.getElem?_append_left (by omega)]; simp
  | succ i =>
   rw [List.getElem?_append_right (by omega), hl, show (i + 1) * 3 + j - 3 = i * 3 + j by omega, ih i (by simpa using hi)]
   simp
theorem a2a (p : Pt) : (ptC p).length = 3 := rfl
theorem a5g (p : Pt) : ∀ u ∈ ptC p, u.oneCell' = true := by
 intro u hu
 simp only [ptC, List.mem_cons, List.not_mem_nil, or_false] at hu
 rcases hu with rfl | rfl | rfl <;> rfl
theorem CV.pts {c : Pt → List Value} (hc : ∀ p, (c p).length = 3) {w : World} {ao : Option Addr} {xs : List Pt} (h : CV w ao (z8 c xs)) {k : Nat} (hk : k < xs.length) :
  ∃ b off, ao = some ⟨b, off, none⟩ ∧ ∀ i (hi : i < xs.length), w.rangeAt b (off + i * 3) (c xs[i]) := by
 have hl := a6h hc xs
 obtain ⟨b, off, hao, hcc⟩ := h.addr (k := k * 3) (by omega)
 refine ⟨b, off, hao, fun i hi j v hv => ?_⟩
 have hj : j < 3 := by have := (List.getElem?_eq_some_iff.1 hv).1; rw [hc] at this; exact this
 rw [← at3 hc xs i j hi hj] at hv
 rw [Nat.add_assoc, hcc (i * 3 + j) (by omega), ← hv, List.getElem?_eq_getElem (by omega)]
theorem a8t (op : Int) (w : World) : Calls Tryz.prog 143 #[.int .i64 op] w fun e w' => e = .returned (.bool (Z2 op)) ∧ w = w' := by
 unfold Z2
 obtain ⟨E, hE⟩ : ∃ E : Bool, decide (op = 4 ∨ op = 5) = E := ⟨_, rfl⟩
 rw [hE]
 have HE : Hid (decide (op = 4 ∨ op = 5) = E) := hE
 clear hE
 by_cases h1 : op = 4
 ·have e1 : (op == 4) = true := by simpa using h1
  have HQ : Hid (op = 4) := h1
  clear h1
  go_enter Tryz.func143, Tryz.ntmps143
  go_wp2
  go_ret
  exact ⟨a08 (by rw [← HE.out, decide_eq_true (.inl HQ.out)]), rfl⟩
 ·have e1 : (op == 4) = false := by simpa using h1
  have HQ : Hid (¬ op = 4) := h1
  by_cases h2 : op = 5
  ·have e2 : (op == 5) = true := by simpa using h2
   have HQ2 : Hid (op = 5) := h2
   clear h1 h2
   go_enter Tryz.func143, Tryz.ntmps143
   go_wp2
   go_ret
   exact ⟨a08 (by rw [← HE.out, decide_eq_true (.inr HQ2.out)]), rfl⟩
  ·have e2 : (op == 5) = false := by simpa using h2
   have HQ2 : Hid (¬ op = 5) := h2
   clear h1 h2
   go_enter Tryz.func143, Tryz.ntmps143
   go_wp2
   go_ret
   exact ⟨a08 (by rw [← HE.out, decide_eq_false (fun h => h.elim HQ.out HQ2.out)]), rfl⟩
theorem aF3 (a : Nat) (ha : a ≤ 4294967295) (w : World) : Calls Tryz.prog 110 #[.int .u32 (a : Int)] w fun e w' => e = .returned (.int .u32 (a2y a : Int)) ∧ w = w' := by
 have h : (-(a : Int)) % 4294967296 = (a2y a : Int) := by unfold a2y; omega
 obtain ⟨E, hE⟩ : ∃ E, a2y a = E := ⟨_, rfl⟩
 rw [hE] at h ⊢
 clear hE
 go_enter Tryz.func110, Tryz.ntmps110
 go_wp2
 go_ret
 exact ⟨P7 h, rfl⟩
theorem a2K {x y : Int} (h : x = y) : Ending.returned (.tuple #[.int .u32 x, .bool true]) = .returned (.tuple #[.int .u32 y, .bool true]) := by rw [h]
theorem aU6 {a b : Nat} : (a : Int) * 2 ^ min b 32 % 4294967296 = (a1y a b true : Int) := by
 unfold a1y
 by_cases h : 31 < b
 ·rw [if_pos h, show min b 32 = 32 by omega]
  omega
 ·rw [if_neg h, if_pos rfl, show min b 32 = b by omega]
  simp
theorem aU5 {a b : Nat} (ha : a ≤ 4294967295) : (a : Int) / 2 ^ min b 32 = (a1y a b false : Int) := by
 unfold a1y
 by_cases h : 31 < b
 ·rw [if_pos h, show min b 32 = 32 by omega]
  omega
 ·rw [if_neg h, if_neg (by decide), show min b 32 = b by omega]
  simp
theorem aj0 (op : Int) (a b : Nat) (ha : a ≤ 4294967295) (hb : b ≤ 4294967295) (ho : 1 ≤ op ∧ op ≤ 10) (hz : Z2 op = true → b ≠ 0) (w : World) :
  Calls Tryz.prog 109 #[.int .i64 op, .int .u32 (a : Int), .int .u32 (b : Int)] w fun e w' => e = .returned (.tuple #[.int .u32 (I0 op a b : Int), .bool true]) ∧ w = w' := by
 have e1 := u32_or_nat a b (by omega) (by omega)
 have e2 := u32_and_nat a b (by omega) (by omega)
 have e3 := u32_xor_nat a b (by omega) (by omega)
 have C0 := a8t op w
 have : op = 1 ∨ op = 2 ∨ op = 3 ∨ op = 6 ∨ op = 7 ∨ op = 8 ∨ op = 9 ∨ op = 10 ∨ op = 4 ∨ op = 5 := by omega
 have HB : Hid (b ≤ 4294967295) := hb
 have HA : Hid (a ≤ 4294967295) := ha
 clear ho ha hb
 rcases this with rfl | rfl | rfl | rfl | rfl | rfl | rfl | rfl | rfl | rfl
 ·have h : ((a : Int) + (b : Int)) % 4294967296 = (I0 1 a b : Int) := by simp [I0]
  generalize I0 1 a b = E at *
  clear hz e1 e2 e3
  rw [show Z2 1 = false from rfl] at C0
  go_enter Tryz.func109, Tryz.ntmps109
  go_wp2_with fail
  refine C0.mono ?_
  rintro e w' ⟨rfl, rfl⟩
  go_wp2
  go_ret2
  exact ⟨a2K h, rfl⟩
 ·have h : ((a : Int) - (b : Int)) % 4294967296 = (I0 2 a b : Int) := by have := HB.out; simp [I0]; omega
  generalize I0 2 a b = E at *
  clear hz e1 e2 e3
  rw [show Z2 2 = false from rfl] at C0
  go_enter Tryz.func109, Tryz.ntmps109
  go_wp2_with fail
  refine C0.mono ?_
  rintro e w' ⟨rfl, rfl⟩
  go_wp2
  go_ret2
  exact ⟨a2K h, rfl⟩
 ·have h : ((a : Int) * (b : Int)) % 4294967296 = (I0 3 a b : Int) := by simp [I0]
  generalize I0 3 a b = E at *
  clear hz e1 e2 e3
  rw [show Z2 3 = false from rfl] at C0
  go_enter Tryz.func109, Tryz.ntmps109
  go_wp2_with fail
  refine C0.mono ?_
  rintro e w' ⟨rfl, rfl⟩
  go_wp2
  go_ret2
  exact ⟨a2K h, rfl⟩
 ·have h : bits .and .u32 (a : Int) (b : Int) = (I0 6 a b : Int) := by rw [e2]; simp [I0]
  generalize I0 6 a b = E at *
  clear hz e1 e2 e3
  rw [show Z2 6 = false from rfl] at C0
  go_enter Tryz.func109, Tryz.ntmps109
  go_wp2_with fail
  refine C0.mono ?_
  rintro e w' ⟨rfl, rfl⟩
  go_wp2
  go_ret2
  exact ⟨rfl, rfl⟩
 ·have h : bits .or .u32 (a : Int) (b : Int) = (I0 7 a b : Int) := by rw [e1]; simp [I0]
  generalize I0 7 a b = E at *
  clear hz e1 e2 e3
  rw [show Z2 7 = false from rfl] at C0
  go_enter Tryz.func109, Tryz.ntmps109
  go_wp2_with fail
  refine C0.mono ?_
  rintro e w' ⟨rfl, rfl⟩
  go_wp2
  go_ret2
  exact ⟨rfl, rfl⟩
 ·have h : bits .xor .u32 (a : Int) (b : Int) = (I0 8 a b : Int) := by rw [e3]; simp [I0]
  generalize I0 8 a b = E at *
  clear hz e1 e2 e3
  rw [show Z2 8 = false from rfl] at C0
  go_enter Tryz.func109, Tryz.ntmps109
  go_wp2_with fail
  refine C0.mono ?_
  rintro e w' ⟨rfl, rfl⟩
  go_wp2
  go_ret2
  exact ⟨rfl, rfl⟩
 ·have HV : Hid (I0 9 a b = a1y a b true) := rfl
  obtain ⟨E, hE⟩ : ∃ E, I0 9 a b = E := ⟨_, rfl⟩
  rw [hE] at HV ⊢
  clear hz e1 e2 e3 hE
  rw [show Z2 9 = false from rfl] at C0
  go_enter Tryz.func109, Tryz.ntmps109
  go_wp2_with fail
  refine C0.mono ?_
  rintro e w' ⟨rfl, rfl⟩
  go_wp2
  go_ret2
  exact ⟨a2K (by rw [HV.out]; exact aU6), rfl⟩
 ·have HV : Hid (I0 10 a b = a1y a b false) := rfl
  obtain ⟨E, hE⟩ : ∃ E, I0 10 a b = E := ⟨_, rfl⟩
  rw [hE] at HV ⊢
  clear hz e1 e2 e3 hE
  rw [show Z2 10 = false from rfl] at C0
  go_enter Tryz.func109, Tryz.ntmps109
  go_wp2_with fail
  refine C0.mono ?_
  rintro e w' ⟨rfl, rfl⟩
  go_wp2
  go_ret2
  exact ⟨a2K (by rw [HV.out]; exact aU5 HA.out), rfl⟩
 ·have hb0 : ((b : Int) == 0) = false := by have := hz rfl; simpa using this
  have hb1 : ¬ b = 0 := hz rfl
  have h : (a : Int) / (b : Int) = (I0 4 a b : Int) := by simp [I0]
  have HE : Hid (I0 4 a b ≤ 4294967295) := Nat.le_trans (Nat.div_le_self a b) HA.out
  generalize I0 4 a b = E at *
  clear hz e1 e2 e3
  rw [show Z2 4 = true from rfl] at C0
  go_enter Tryz.func109, Tryz.ntmps109
  go_wp2_with fail
  refine C0.mono ?_
  rintro e w' ⟨rfl, rfl⟩
  go_wp2
  go_ret2
  exact ⟨a2K (by have := HE.out; omega), rfl⟩
 ·have hb0 : ((b : Int) == 0) = false := by have := hz rfl; simpa using this
  have hb1 : ¬ b = 0 := hz rfl
  have h : (a : Int) % (b : Int) = (I0 5 a b : Int) := by simp [I0]
  generalize I0 5 a b = E at *
  clear hz e1 e2 e3
  rw [show Z2 5 = true from rfl] at C0
  go_enter Tryz.func109, Tryz.ntmps109
  go_wp2_with fail
  refine C0.mono ?_
  rintro e w' ⟨rfl, rfl⟩
  go_wp2
  go_ret2
  exact ⟨a2K h, rfl⟩
def a0l (x : Ng) (ps : List Pt) : Value := match a1U x ps with
 | some v => .tuple #[.int .u32 (v : Int), .bool true]
 | none => .tuple #[.int .u32 0, .bool false]
theorem az4 (x : Ng) (ps : List Pt) (v : Value) (w : World) (hk : x.kind = 1) : Calls Tryz.prog 51 #[.agg x.cells.toArray, v] w fun e w' => e = .returned (a0l x ps) ∧ w.grownBy w' none := by
 have e0 : a0l x ps = .tuple #[.int .u32 (x.n : Int), .bool true] := by rw [a0l, a1U, if_pos hk]
 rw [e0]
 clear hk e0
 have HBX := D0 x
 have h1 := NB.alloc w x
 have h3 := World.grownBy_alloc w (.cells x.cells.toArray 43) none
 have c2 := h1.n
 obtain ⟨X, hX⟩ : ∃ X, x.cells.toArray = X := ⟨_, rfl⟩
 rw [hX] at HBX ⊢
 go_enter Tryz.func51, Tryz.ntmps51
 go_upto_region 1 with fail
 rw [← hX] at *
 generalize w.alloc (.cells x.cells.toArray 43) = w1 at *
 generalize w.heap.size = B at *
 clear HBX hX X
 go_wp2
 go_ret2
 exact ⟨rfl, h3⟩
theorem a0Y (x : Ng) (ps : List Pt) (v : Value) (w : World) (hk : x.kind ≠ 1 ∧ x.kind ≠ 4 ∧ x.kind ≠ 5) : Calls Tryz.prog 53 #[.agg x.cells.toArray, v] w fun e w' => e = .returned (a0l x ps) ∧ w.grownBy w' none := by
 have e0 : a0l x ps = .tuple #[.int .u32 0, .bool false] := by rw [a0l, a1U, if_neg hk.1, if_neg hk.2.1, if_neg hk.2.2]
 rw [e0]
 clear hk e0
 have HBX := D0 x
 have h3 := World.grownBy_alloc w (.cells x.cells.toArray 43) none
 obtain ⟨X, hX⟩ : ∃ X, x.cells.toArray = X := ⟨_, rfl⟩
 rw [hX] at HBX ⊢
 go_enter Tryz.func53, Tryz.ntmps53
 go_upto_region 1 with fail
 rw [← hX] at *
 generalize w.alloc (.cells x.cells.toArray 43) = w1 at *
 generalize w.heap.size = B at *
 clear HBX hX X
 go_wp2
 go_ret2
 exact ⟨rfl, h3⟩
theorem aH5 (x : Ng) (p : Pt) (ao : Option Addr) (cap : Nat) (w : World) (C : CV w ao (z8 ptC [p])) (hp : p.val ≤ 4294967295) (hk : x.kind = 5) : Calls Tryz.prog 60 #[.agg x.cells.toArray, .slice ao 1 cap] w fun e w' => e = .returned (a0l x [p]) ∧ w.grownBy w' none := by
 have e0 : a0l x [p] = .tuple #[.int .u32 (a2y p.val : Int), .bool true] := by rw [a0l, a1U, if_neg (by omega), if_neg (by omega), if_pos hk]; rfl
 rw [e0]
 clear hk e0
 have HBX := D0 x
 have h3 := World.grownBy_alloc w (.cells x.cells.toArray 43) none
 obtain ⟨b, o, rfl, hc⟩ := (C.keptNone h3).pts a2a (k := 0) (by simp)
 have c2 := hc 0 (by simp) 2 (.int .u32 (p.val : Int)) rfl
 simp only [Nat.zero_mul, Nat.add_zero] at c2
 clear C hc
 generalize p.val = pv at *
 obtain ⟨X, hX⟩ : ∃ X, x.cells.toArray = X := ⟨_, rfl⟩
 rw [hX] at HBX ⊢
 go_enter Tryz.func60, Tryz.ntmps60
 go_upto_region 1 with fail
 rw [← hX] at *
 generalize w.alloc (.cells x.cells.toArray 43) = w1 at *
 generalize w.heap.size = B at *
 clear HBX hX X
 go_wp2_with fail
 refine (aF3 pv hp _).mono ?_
 rintro e w' ⟨rfl, rfl⟩
 go_wp2
 go_ret2
 exact ⟨rfl, h3⟩
theorem aQ9 (x : Ng) (p q : Pt) (ao : Option Addr) (cap : Nat) (w : World) (C : CV w ao (z8 ptC [p, q])) (hp : p.val ≤ 4294967295) (hq : q.val ≤ 4294967295) (hk : x.kind = 4) (ho : 1 ≤ x.op ∧ x.op ≤ 10) (hz : Z2 x.op = true → q.val ≠ 0) :
  Calls Tryz.prog 59 #[.agg x.cells.toArray, .slice ao 2 cap] w fun e w' => e = .returned (a0l x [p, q]) ∧ w.grownBy w' none := by
 have e0 : a0l x [p, q] = .tuple #[.int .u32 (I0 x.op p.val q.val : Int), .bool true] := by rw [a0l, a1U, if_neg (by omega), if_pos hk]; rfl
 rw [e0]
 clear hk e0
 have HBX := D0 x
 have h1 := NB.alloc w x
 have h3 := World.grownBy_alloc w (.cells x.cells.toArray 43) none
 obtain ⟨b, o, rfl, hc⟩ := (C.keptNone h3).pts a2a (k := 0) (by simp)
 have c2 := hc 0 (by simp) 2 (.int .u32 (p.val : Int)) rfl
 have c5 := hc 1 (by simp) 2 (.int .u32 (q.val : Int)) rfl
 have c1 := h1.op
 simp only [Nat.zero_mul, Nat.add_zero, Nat.one_mul] at c2 c5
 obtain ⟨X, hX⟩ : ∃ X, x.cells.toArray = X := ⟨_, rfl⟩
 rw [hX] at HBX ⊢
 clear C hc
 have CA : ∀ W : World, Calls Tryz.prog 109 #[.int .i64 x.op, .int .u32 (p.val : Int), .int .u32 (q.val : Int)] W fun e w' => e = .returned (.tuple #[.int .u32 (I0 x.op p.val q.val : Int), .bool true]) ∧ w' = W := fun W => (aj0 x.op p.val q.val hp hq ho hz W).mono fun e w' h => ⟨h.1, h.2.symm⟩
 generalize I0 x.op p.val q.val = E at *
 generalize p.val = pv at *
 generalize q.val = qv at *
 clear hp hq ho hz
 go_enter Tryz.func59, Tryz.ntmps59
 go_upto_region 1 with fail
 rw [← hX] at *
 generalize w.alloc (.cells x.cells.toArray 43) = w1 at *
 generalize w.heap.size = B at *
 clear HBX hX X h1
 generalize x.op = op at *
 go_quiet ((go_at_call 109; exact Calls.quiet_of_same (CA _)))
 go_wp2
 go_ret2
 exact ⟨rfl, d3 h3 (f9 _ _ none)⟩

end Go.Proofs.YtklipelnjgpnjaaGreatDoor
