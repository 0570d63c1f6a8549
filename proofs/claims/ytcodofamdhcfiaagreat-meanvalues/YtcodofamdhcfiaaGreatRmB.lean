import Derived.Test.YtcodofamdhcfiaaGreatAb
import Derived.Test.YtcodofamdhcfiaaGreatLotP28
import Derived.Test.YtcodofamdhcfiaaGreatLotP7
import Derived.Test.YtcodofamdhcfiaaGreatLotP29
import Derived.Test.YtcodofamdhcfiaaGreatLotP4
namespace Go.Proofs.YtcodofamdhcfiaaGreat
open Go.RowKit
set_option maxRecDepth 100000
def baseR (v : Vw) (of : Int) : Nat × Bool :=
 if of = 1 then (0, true) else if of = 4 ∨ of = 5 ∨ of = 6 ∨ of = 7 then (v.load, wordR v of && ((v.load : Int) != 0)) else (v.pos, wordR v of)
theorem baseR_eq (v : Vw) {of : Int} (h1 : 1 ≤ of) (h2 : of ≤ 13) : baseR v of = baseM v of := by
 by_cases h : of = 1
 ·subst h; rfl
 ·have hw := wordR_eq v (show 2 ≤ of by omega) h2
  unfold baseR baseM
  rw [if_neg h, if_neg h, hw]
  split
  ·congr 2
   exact nat_bne v.load 0
  ·rfl
set_option maxHeartbeats 4000000 in
theorem refbase_any (s : Sg) (a : Option Addr) (ca : Nat) (of : Int) (w : World) : Calls Tryz.prog 71 #[.agg (sgA s a ca), .int .i64 of] w fun e w' => e = .returned (.tuple #[.int .i64 ((baseR s.v of).1 : Int), .bool (baseR s.v of).2]) ∧ w.grownBy w' none := by
 have HBX := box_sg14 s a ca
 have h1 := VAt.alloc w 48 (sgA s a ca)
 have K1 := World.grownBy_alloc w (.cells (sgA s a ca) 48) none
 have HSZ := sg_size s a ca
 have HWD : Hid (∀ W, Calls Tryz.prog 44 #[.agg (sgA s a ca), .int .i64 of] W fun e w' => e = .returned (.bool (wordR s.v of)) ∧ W.grownBy w' none) := fun W => refword_any s a ca of W
 have HC : Hid (∀ W B, VAt W B 48 (sgA s a ca) → W.cell? ⟨B, 5, none⟩ = some (.int .i64 (s.v.pos : Int)) ∧ W.cell? ⟨B, 8, none⟩ = some (.int .i64 (s.v.load : Int))) := fun W B h => ⟨h.cell 5, h.cell 8⟩
 obtain ⟨X, hX⟩ : ∃ X, sgA s a ca = X := ⟨_, rfl⟩
 rw [hX] at HBX h1 K1 HWD HSZ HC ⊢
 clear hX
 obtain ⟨R, hR⟩ : ∃ R, baseR s.v of = R := ⟨_, rfl⟩
 obtain ⟨xw, hxw⟩ : ∃ x, wordR s.v of = x := ⟨_, rfl⟩
 rw [hR]
 rw [hxw] at HWD
 have HRR : Hid (R = if of = 1 then (0, true) else if of = 4 ∨ of = 5 ∨ of = 6 ∨ of = 7 then (s.v.load, xw && ((s.v.load : Int) != 0)) else (s.v.pos, xw)) := by
  show R = _
  rw [← hR, ← hxw]
  rfl
 clear hR hxw
 go_enter Tryz.func71, Tryz.ntmps71
 go_upto_region 1 with fail
 generalize w.alloc (.cells X 48) = w1 at *
 generalize w.heap.size = B at *
 have HS0 : Hid (VAt w1.drew B 48 X ∧ w.grownBy w1.drew none) := ⟨h1.kept (grown_drewN w1 1 none), grown_trans K1 (grown_drewN w1 1 none)⟩
 clear HBX h1
 by_cases e1 : of = 1
 ·subst e1
  have HF : Hid (R = (0, true)) := HRR.out
  clear HRR
  go_wp2
  go_ret2
  exact ⟨by rw [HF.out]; rfl, K1⟩
 by_cases e4 : of = 4 ∨ of = 5 ∨ of = 6 ∨ of = 7
 ·have HF : Hid (R = (s.v.load, xw && ((s.v.load : Int) != 0))) := by
   show R = _
   rw [HRR.out, if_neg e1, if_pos e4]
  clear HRR K1
  rcases e4 with rfl | rfl | rfl | rfl
  ·go_upto_region 8 with fail
   cases xw with
   | true =>
    refine wp_region_held_drew (S := fun W => VAt W B 48 X ∧ w.grownBy W none) (by kernel_rfl) (HS0.out) (fun hHeld => ?_)
    refine wpT (i := 0) (v := .pointer (some ⟨B, 0, none⟩)) rfl (Or.inl ⟨by rfl, fun W hW => ?_⟩) hHeld ?_
    ·clear hW
     go_simp
    try simp only [Act.put, a0, a1, a3, a4, a5]
    refine wpT (i := 1) (v := .pointer (some ⟨B, 8, none⟩)) rfl (Or.inl ⟨by rfl, fun W hW => ?_⟩) hHeld ?_
    ·clear hW
     go_simp
    try simp only [Act.put, a0, a1, a2, a3, a4, a5]
    refine wpT (i := 2) (v := .int .i64 (s.v.load : Int)) rfl (Or.inl ⟨by rfl, fun W hW => ?_⟩) hHeld ?_
    ·have c8 := (HC.out W B hW.1).2
     clear hW
     go_simp
    try simp only [Act.put, a0, a1, a2, a3, a4, a5]
    refine wpT (i := 3) (v := .agg (X)) rfl (yieldsIf_load_row (by rfl) _ _ rfl B rfl 48 (X) _ (fun W hW => hW.1) Tryz.underlying48 rfl HSZ) hHeld ?_
    try simp only [Act.put, a0, a1, a2, a3, a4, a5]
    refine wpT (i := 4) (v := .int .i64 4) rfl (Or.inl ⟨by rfl, fun W hW => ?_⟩) hHeld ?_
    ·clear hW
     go_simp
    try simp only [Act.put, a0, a1, a2, a3, a4, a5]
    refine wpR (rs := [5]) (AllReadyH.cons rfl (fun K hK => ?_) AllReadyH.nil)
    go_simp
    refine (HWD.out _).mono ?_
    rintro e w2 ⟨rfl, K2⟩
    go_wp2_with fail
    refine hK.out _ _ (⟨hHeld.1.kept K2, grown_trans hHeld.2 K2⟩) (fun hHeld => ?_)
    clear hK K
    try simp only [Act.put, a0, a1, a2, a3, a4, a5]
    refine wpT (i := 6) (v := .bool true) rfl (Or.inl ⟨by rfl, fun W hW => ?_⟩) hHeld ?_
    ·clear hW
     go_simp
    try simp only [Act.put, a0, a1, a2, a3, a4, a5]
    refine wpT (i := 7) (v := .pointer (some ⟨B, 0, none⟩)) rfl (Or.inl ⟨by rfl, fun W hW => ?_⟩) hHeld ?_
    ·clear hW
     go_simp
    try simp only [Act.put, a0, a1, a2, a3, a4, a5]
    refine wpT (i := 8) (v := .pointer (some ⟨B, 8, none⟩)) rfl (Or.inl ⟨by rfl, fun W hW => ?_⟩) hHeld ?_
    ·clear hW
     go_simp
    try simp only [Act.put, a0, a1, a2, a3, a4, a5]
    refine wpT (i := 9) (v := .int .i64 (s.v.load : Int)) rfl (Or.inl ⟨by rfl, fun W hW => ?_⟩) hHeld ?_
    ·have c8 := (HC.out W B hW.1).2
     clear hW
     go_simp
    try simp only [Act.put, a0, a1, a2, a3, a4, a5]
    refine wpT (i := 10) (v := .bool ((s.v.load : Int) != 0)) rfl (Or.inl ⟨by rfl, fun W hW => ?_⟩) hHeld ?_
    ·clear hW
     go_simp
    try simp only [Act.put, a0, a1, a2, a3, a4, a5]
    refine wpT (i := 11) (v := .bool ((s.v.load : Int) != 0)) rfl (Or.inl ⟨by rfl, fun W hW => ?_⟩) hHeld ?_
    ·clear hW
     go_simp
    try simp only [Act.put, a0, a1, a2, a3, a4, a5]
    refine wpT (i := 12) (v := .int .i64 (s.v.load : Int)) rfl (Or.inl ⟨by rfl, fun W hW => ?_⟩) hHeld ?_
    ·clear hW
     go_simp
    try simp only [Act.put, a0, a1, a2, a3, a4, a5]
    refine wpT (i := 13) (v := .bool ((s.v.load : Int) != 0)) rfl (Or.inl ⟨by rfl, fun W hW => ?_⟩) hHeld ?_
    ·clear hW
     go_simp
    try simp only [Act.put, a0, a1, a2, a3, a4, a5]
    refine wpAnyH_done (by kernel_rfl) ?_ _
    have G3 := hHeld.2
    clear hHeld
    go_wp2
    go_ret2
    exact ⟨by rw [HF.out]; rfl, G3⟩
   | false =>
    refine wp_region_held_drew (S := fun W => VAt W B 48 X ∧ w.grownBy W none) (by kernel_rfl) (HS0.out) (fun hHeld => ?_)
    refine wpT (i := 0) (v := .pointer (some ⟨B, 0, none⟩)) rfl (Or.inl ⟨by rfl, fun W hW => ?_⟩) hHeld ?_
    ·clear hW
     go_simp
    try simp only [Act.put, a0, a1, a3, a4, a5]
    refine wpT (i := 1) (v := .pointer (some ⟨B, 8, none⟩)) rfl (Or.inl ⟨by rfl, fun W hW => ?_⟩) hHeld ?_
    ·clear hW
     go_simp
    try simp only [Act.put, a0, a1, a2, a3, a4, a5]
    refine wpT (i := 2) (v := .int .i64 (s.v.load : Int)) rfl (Or.inl ⟨by rfl, fun W hW => ?_⟩) hHeld ?_
    ·have c8 := (HC.out W B hW.1).2
     clear hW
     go_simp
    try simp only [Act.put, a0, a1, a2, a3, a4, a5]
    refine wpT (i := 3) (v := .agg (X)) rfl (yieldsIf_load_row (by rfl) _ _ rfl B rfl 48 (X) _ (fun W hW => hW.1) Tryz.underlying48 rfl HSZ) hHeld ?_
    try simp only [Act.put, a0, a1, a2, a3, a4, a5]
    refine wpT (i := 4) (v := .int .i64 4) rfl (Or.inl ⟨by rfl, fun W hW => ?_⟩) hHeld ?_
    ·clear hW
     go_simp
    try simp only [Act.put, a0, a1, a2, a3, a4, a5]
    refine wpR (rs := [5]) (AllReadyH.cons rfl (fun K hK => ?_) AllReadyH.nil)
    go_simp
    refine (HWD.out _).mono ?_
    rintro e w2 ⟨rfl, K2⟩
    go_wp2_with fail
    refine hK.out _ _ (⟨hHeld.1.kept K2, grown_trans hHeld.2 K2⟩) (fun hHeld => ?_)
    clear hK K
    try simp only [Act.put, a0, a1, a2, a3, a4, a5]
    refine wpT (i := 6) (v := .bool false) rfl (Or.inl ⟨by rfl, fun W hW => ?_⟩) hHeld ?_
    ·clear hW
     go_simp
    try simp only [Act.put, a0, a1, a2, a3, a4, a5]
    refine wpT (i := 7) (v := undef) rfl (Or.inr ⟨by rfl, rfl⟩) hHeld ?_
    try simp only [Act.put, a0, a1, a2, a3, a4, a5]
    refine wpT (i := 8) (v := undef) rfl (Or.inr ⟨by rfl, rfl⟩) hHeld ?_
    try simp only [Act.put, a0, a1, a2, a3, a4, a5]
    refine wpT (i := 9) (v := undef) rfl (Or.inr ⟨by rfl, rfl⟩) hHeld ?_
    try simp only [Act.put, a0, a1, a2, a3, a4, a5]
    refine wpT (i := 10) (v := undef) rfl (Or.inr ⟨by rfl, rfl⟩) hHeld ?_
    try simp only [Act.put, a0, a1, a2, a3, a4, a5]
    refine wpT (i := 11) (v := .bool false) rfl (Or.inl ⟨by rfl, fun W hW => ?_⟩) hHeld ?_
    ·clear hW
     go_simp
    try simp only [Act.put, a0, a1, a2, a3, a4, a5]
    refine wpT (i := 12) (v := .int .i64 (s.v.load : Int)) rfl (Or.inl ⟨by rfl, fun W hW => ?_⟩) hHeld ?_
    ·clear hW
     go_simp
    try simp only [Act.put, a0, a1, a2, a3, a4, a5]
    refine wpT (i := 13) (v := .bool false) rfl (Or.inl ⟨by rfl, fun W hW => ?_⟩) hHeld ?_
    ·clear hW
     go_simp
    try simp only [Act.put, a0, a1, a2, a3, a4, a5]
    refine wpAnyH_done (by kernel_rfl) ?_ _
    have G3 := hHeld.2
    clear hHeld
    go_wp2
    go_ret2
    exact ⟨by rw [HF.out]; rfl, G3⟩
  ·go_upto_region 8 with fail
   cases xw with
   | true =>
    refine wp_region_held_drew (S := fun W => VAt W B 48 X ∧ w.grownBy W none) (by kernel_rfl) (HS0.out) (fun hHeld => ?_)
    refine wpT (i := 0) (v := .pointer (some ⟨B, 0, none⟩)) rfl (Or.inl ⟨by rfl, fun W hW => ?_⟩) hHeld ?_
    ·clear hW
     go_simp
    try simp only [Act.put, a0, a1, a3, a4, a5]
    refine wpT (i := 1) (v := .pointer (some ⟨B, 8, none⟩)) rfl (Or.inl ⟨by rfl, fun W hW => ?_⟩) hHeld ?_
    ·clear hW
     go_simp
    try simp only [Act.put, a0, a1, a2, a3, a4, a5]
    refine wpT (i := 2) (v := .int .i64 (s.v.load : Int)) rfl (Or.inl ⟨by rfl, fun W hW => ?_⟩) hHeld ?_
    ·have c8 := (HC.out W B hW.1).2
     clear hW
     go_simp
    try simp only [Act.put, a0, a1, a2, a3, a4, a5]
    refine wpT (i := 3) (v := .agg (X)) rfl (yieldsIf_load_row (by rfl) _ _ rfl B rfl 48 (X) _ (fun W hW => hW.1) Tryz.underlying48 rfl HSZ) hHeld ?_
    try simp only [Act.put, a0, a1, a2, a3, a4, a5]
    refine wpT (i := 4) (v := .int .i64 5) rfl (Or.inl ⟨by rfl, fun W hW => ?_⟩) hHeld ?_
    ·clear hW
     go_simp
    try simp only [Act.put, a0, a1, a2, a3, a4, a5]
    refine wpR (rs := [5]) (AllReadyH.cons rfl (fun K hK => ?_) AllReadyH.nil)
    go_simp
    refine (HWD.out _).mono ?_
    rintro e w2 ⟨rfl, K2⟩
    go_wp2_with fail
    refine hK.out _ _ (⟨hHeld.1.kept K2, grown_trans hHeld.2 K2⟩) (fun hHeld => ?_)
    clear hK K
    try simp only [Act.put, a0, a1, a2, a3, a4, a5]
    refine wpT (i := 6) (v := .bool true) rfl (Or.inl ⟨by rfl, fun W hW => ?_⟩) hHeld ?_
    ·clear hW
     go_simp
    try simp only [Act.put, a0, a1, a2, a3, a4, a5]
    refine wpT (i := 7) (v := .pointer (some ⟨B, 0, none⟩)) rfl (Or.inl ⟨by rfl, fun W hW => ?_⟩) hHeld ?_
    ·clear hW
     go_simp
    try simp only [Act.put, a0, a1, a2, a3, a4, a5]
    refine wpT (i := 8) (v := .pointer (some ⟨B, 8, none⟩)) rfl (Or.inl ⟨by rfl, fun W hW => ?_⟩) hHeld ?_
    ·clear hW
     go_simp
    try simp only [Act.put, a0, a1, a2, a3, a4, a5]
    refine wpT (i := 9) (v := .int .i64 (s.v.load : Int)) rfl (Or.inl ⟨by rfl, fun W hW => ?_⟩) hHeld ?_
    ·have c8 := (HC.out W B hW.1).2
     clear hW
     go_simp
    try simp only [Act.put, a0, a1, a2, a3, a4, a5]
    refine wpT (i := 10) (v := .bool ((s.v.load : Int) != 0)) rfl (Or.inl ⟨by rfl, fun W hW => ?_⟩) hHeld ?_
    ·clear hW
     go_simp
    try simp only [Act.put, a0, a1, a2, a3, a4, a5]
    refine wpT (i := 11) (v := .bool ((s.v.load : Int) != 0)) rfl (Or.inl ⟨by rfl, fun W hW => ?_⟩) hHeld ?_
    ·clear hW
     go_simp
    try simp only [Act.put, a0, a1, a2, a3, a4, a5]
    refine wpT (i := 12) (v := .int .i64 (s.v.load : Int)) rfl (Or.inl ⟨by rfl, fun W hW => ?_⟩) hHeld ?_
    ·clear hW
     go_simp
    try simp only [Act.put, a0, a1, a2, a3, a4, a5]
    refine wpT (i := 13) (v := .bool ((s.v.load : Int) != 0)) rfl (Or.inl ⟨by rfl, fun W hW => ?_⟩) hHeld ?_
    ·clear hW
     go_simp
    try simp only [Act.put, a0, a1, a2, a3, a4, a5]
    refine wpAnyH_done (by kernel_rfl) ?_ _
    have G3 := hHeld.2
    clear hHeld
    go_wp2
    go_ret2
    exact ⟨by rw [HF.out]; rfl, G3⟩
   | false =>
    refine wp_region_held_drew (S := fun W => VAt W B 48 X ∧ w.grownBy W none) (by kernel_rfl) (HS0.out) (fun hHeld => ?_)
    refine wpT (i := 0) (v := .pointer (some ⟨B, 0, none⟩)) rfl (Or.inl ⟨by rfl, fun W hW => ?_⟩) hHeld ?_
    ·clear hW
     go_simp
    try simp only [Act.put, a0, a1, a3, a4, a5]
    refine wpT (i := 1) (v := .pointer (some ⟨B, 8, none⟩)) rfl (Or.inl ⟨by rfl, fun W hW => ?_⟩) hHeld ?_
    ·clear hW
     go_simp
    try simp only [Act.put, a0, a1, a2, a3, a4, a5]
    refine wpT (i := 2) (v := .int .i64 (s.v.load : Int)) rfl (Or.inl ⟨by rfl, fun W hW => ?_⟩) hHeld ?_
    ·have c8 := (HC.out W B hW.1).2
     clear hW
     go_simp
    try simp only [Act.put, a0, a1, a2, a3, a4, a5]
    refine wpT (i := 3) (v := .agg (X)) rfl (yieldsIf_load_row (by rfl) _ _ rfl B rfl 48 (X) _ (fun W hW => hW.1) Tryz.underlying48 rfl HSZ) hHeld ?_
    try simp only [Act.put, a0, a1, a2, a3, a4, a5]
    refine wpT (i := 4) (v := .int .i64 5) rfl (Or.inl ⟨by rfl, fun W hW => ?_⟩) hHeld ?_
    ·clear hW
     go_simp
    try simp only [Act.put, a0, a1, a2, a3, a4, a5]
    refine wpR (rs := [5]) (AllReadyH.cons rfl (fun K hK => ?_) AllReadyH.nil)
    go_simp
    refine (HWD.out _).mono ?_
    rintro e w2 ⟨rfl, K2⟩
    go_wp2_with fail
    refine hK.out _ _ (⟨hHeld.1.kept K2, grown_trans hHeld.2 K2⟩) (fun hHeld => ?_)
    clear hK K
    try simp only [Act.put, a0, a1, a2, a3, a4, a5]
    refine wpT (i := 6) (v := .bool false) rfl (Or.inl ⟨by rfl, fun W hW => ?_⟩) hHeld ?_
    ·clear hW
     go_simp
    try simp only [Act.put, a0, a1, a2, a3, a4, a5]
    refine wpT (i := 7) (v := undef) rfl (Or.inr ⟨by rfl, rfl⟩) hHeld ?_
    try simp only [Act.put, a0, a1, a2, a3, a4, a5]
    refine wpT (i := 8) (v := undef) rfl (Or.inr ⟨by rfl, rfl⟩) hHeld ?_
    try simp only [Act.put, a0, a1, a2, a3, a4, a5]
    refine wpT (i := 9) (v := undef) rfl (Or.inr ⟨by rfl, rfl⟩) hHeld ?_
    try simp only [Act.put, a0, a1, a2, a3, a4, a5]
    refine wpT (i := 10) (v := undef) rfl (Or.inr ⟨by rfl, rfl⟩) hHeld ?_
    try simp only [Act.put, a0, a1, a2, a3, a4, a5]
    refine wpT (i := 11) (v := .bool false) rfl (Or.inl ⟨by rfl, fun W hW => ?_⟩) hHeld ?_
    ·clear hW
     go_simp
    try simp only [Act.put, a0, a1, a2, a3, a4, a5]
    refine wpT (i := 12) (v := .int .i64 (s.v.load : Int)) rfl (Or.inl ⟨by rfl, fun W hW => ?_⟩) hHeld ?_
    ·clear hW
     go_simp
    try simp only [Act.put, a0, a1, a2, a3, a4, a5]
    refine wpT (i := 13) (v := .bool false) rfl (Or.inl ⟨by rfl, fun W hW => ?_⟩) hHeld ?_
    ·clear hW
     go_simp
    try simp only [Act.put, a0, a1, a2, a3, a4, a5]
    refine wpAnyH_done (by kernel_rfl) ?_ _
    have G3 := hHeld.2
    clear hHeld
    go_wp2
    go_ret2
    exact ⟨by rw [HF.out]; rfl, G3⟩
  ·go_upto_region 8 with fail
   cases xw with
   | true =>
    refine wp_region_held_drew (S := fun W => VAt W B 48 X ∧ w.grownBy W none) (by kernel_rfl) (HS0.out) (fun hHeld => ?_)
    refine wpT (i := 0) (v := .pointer (some ⟨B, 0, none⟩)) rfl (Or.inl ⟨by rfl, fun W hW => ?_⟩) hHeld ?_
    ·clear hW
     go_simp
    try simp only [Act.put, a0, a1, a3, a4, a5]
    refine wpT (i := 1) (v := .pointer (some ⟨B, 8, none⟩)) rfl (Or.inl ⟨by rfl, fun W hW => ?_⟩) hHeld ?_
    ·clear hW
     go_simp
    try simp only [Act.put, a0, a1, a2, a3, a4, a5]
    refine wpT (i := 2) (v := .int .i64 (s.v.load : Int)) rfl (Or.inl ⟨by rfl, fun W hW => ?_⟩) hHeld ?_
    ·have c8 := (HC.out W B hW.1).2
     clear hW
     go_simp
    try simp only [Act.put, a0, a1, a2, a3, a4, a5]
    refine wpT (i := 3) (v := .agg (X)) rfl (yieldsIf_load_row (by rfl) _ _ rfl B rfl 48 (X) _ (fun W hW => hW.1) Tryz.underlying48 rfl HSZ) hHeld ?_
    try simp only [Act.put, a0, a1, a2, a3, a4, a5]
    refine wpT (i := 4) (v := .int .i64 6) rfl (Or.inl ⟨by rfl, fun W hW => ?_⟩) hHeld ?_
    ·clear hW
     go_simp
    try simp only [Act.put, a0, a1, a2, a3, a4, a5]
    refine wpR (rs := [5]) (AllReadyH.cons rfl (fun K hK => ?_) AllReadyH.nil)
    go_simp
    refine (HWD.out _).mono ?_
    rintro e w2 ⟨rfl, K2⟩
    go_wp2_with fail
    refine hK.out _ _ (⟨hHeld.1.kept K2, grown_trans hHeld.2 K2⟩) (fun hHeld => ?_)
    clear hK K
    try simp only [Act.put, a0, a1, a2, a3, a4, a5]
    refine wpT (i := 6) (v := .bool true) rfl (Or.inl ⟨by rfl, fun W hW => ?_⟩) hHeld ?_
    ·clear hW
     go_simp
    try simp only [Act.put, a0, a1, a2, a3, a4, a5]
    refine wpT (i := 7) (v := .pointer (some ⟨B, 0, none⟩)) rfl (Or.inl ⟨by rfl, fun W hW => ?_⟩) hHeld ?_
    ·clear hW
     go_simp
    try simp only [Act.put, a0, a1, a2, a3, a4, a5]
    refine wpT (i := 8) (v := .pointer (some ⟨B, 8, none⟩)) rfl (Or.inl ⟨by rfl, fun W hW => ?_⟩) hHeld ?_
    ·clear hW
     go_simp
    try simp only [Act.put, a0, a1, a2, a3, a4, a5]
    refine wpT (i := 9) (v := .int .i64 (s.v.load : Int)) rfl (Or.inl ⟨by rfl, fun W hW => ?_⟩) hHeld ?_
    ·have c8 := (HC.out W B hW.1).2
     clear hW
     go_simp
    try simp only [Act.put, a0, a1, a2, a3, a4, a5]
    refine wpT (i := 10) (v := .bool ((s.v.load : Int) != 0)) rfl (Or.inl ⟨by rfl, fun W hW => ?_⟩) hHeld ?_
    ·clear hW
     go_simp
    try simp only [Act.put, a0, a1, a2, a3, a4, a5]
    refine wpT (i := 11) (v := .bool ((s.v.load : Int) != 0)) rfl (Or.inl ⟨by rfl, fun W hW => ?_⟩) hHeld ?_
    ·clear hW
     go_simp
    try simp only [Act.put, a0, a1, a2, a3, a4, a5]
    refine wpT (i := 12) (v := .int .i64 (s.v.load : Int)) rfl (Or.inl ⟨by rfl, fun W hW => ?_⟩) hHeld ?_
    ·clear hW
     go_simp
    try simp only [Act.put, a0, a1, a2, a3, a4, a5]
    refine wpT (i := 13) (v := .bool ((s.v.load : Int) != 0)) rfl (Or.inl ⟨by rfl, fun W hW => ?_⟩) hHeld ?_
    ·clear hW
     go_simp
    try simp only [Act.put, a0, a1, a2, a3, a4, a5]
    refine wpAnyH_done (by kernel_rfl) ?_ _
    have G3 := hHeld.2
    clear hHeld
    go_wp2
    go_ret2
    exact ⟨by rw [HF.out]; rfl, G3⟩
   | false =>
    refine wp_region_held_drew (S := fun W => VAt W B 48 X ∧ w.grownBy W none) (by kernel_rfl) (HS0.out) (fun hHeld => ?_)
    refine wpT (i := 0) (v := .pointer (some ⟨B, 0, none⟩)) rfl (Or.inl ⟨by rfl, fun W hW => ?_⟩) hHeld ?_
    ·clear hW
     go_simp
    try simp only [Act.put, a0, a1, a3, a4, a5]
    refine wpT (i := 1) (v := .pointer (some ⟨B, 8, none⟩)) rfl (Or.inl ⟨by rfl, fun W hW => ?_⟩) hHeld ?_
    ·clear hW
     go_simp
    try simp only [Act.put, a0, a1, a2, a3, a4, a5]
    refine wpT (i := 2) (v := .int .i64 (s.v.load : Int)) rfl (Or.inl ⟨by rfl, fun W hW => ?_⟩) hHeld ?_
    ·have c8 := (HC.out W B hW.1).2
     clear hW
     go_simp
    try simp only [Act.put, a0, a1, a2, a3, a4, a5]
    refine wpT (i := 3) (v := .agg (X)) rfl (yieldsIf_load_row (by rfl) _ _ rfl B rfl 48 (X) _ (fun W hW => hW.1) Tryz.underlying48 rfl HSZ) hHeld ?_
    try simp only [Act.put, a0, a1, a2, a3, a4, a5]
    refine wpT (i := 4) (v := .int .i64 6) rfl (Or.inl ⟨by rfl, fun W hW => ?_⟩) hHeld ?_
    ·clear hW
     go_simp
    try simp only [Act.put, a0, a1, a2, a3, a4, a5]
    refine wpR (rs := [5]) (AllReadyH.cons rfl (fun K hK => ?_) AllReadyH.nil)
    go_simp
    refine (HWD.out _).mono ?_
    rintro e w2 ⟨rfl, K2⟩
    go_wp2_with fail
    refine hK.out _ _ (⟨hHeld.1.kept K2, grown_trans hHeld.2 K2⟩) (fun hHeld => ?_)
    clear hK K
    try simp only [Act.put, a0, a1, a2, a3, a4, a5]
    refine wpT (i := 6) (v := .bool false) rfl (Or.inl ⟨by rfl, fun W hW => ?_⟩) hHeld ?_
    ·clear hW
     go_simp
    try simp only [Act.put, a0, a1, a2, a3, a4, a5]
    refine wpT (i := 7) (v := undef) rfl (Or.inr ⟨by rfl, rfl⟩) hHeld ?_
    try simp only [Act.put, a0, a1, a2, a3, a4, a5]
    refine wpT (i := 8) (v := undef) rfl (Or.inr ⟨by rfl, rfl⟩) hHeld ?_
    try simp only [Act.put, a0, a1, a2, a3, a4, a5]
    refine wpT (i := 9) (v := undef) rfl (Or.inr ⟨by rfl, rfl⟩) hHeld ?_
    try simp only [Act.put, a0, a1, a2, a3, a4, a5]
    refine wpT (i := 10) (v := undef) rfl (Or.inr ⟨by rfl, rfl⟩) hHeld ?_
    try simp only [Act.put, a0, a1, a2, a3, a4, a5]
    refine wpT (i := 11) (v := .bool false) rfl (Or.inl ⟨by rfl, fun W hW => ?_⟩) hHeld ?_
    ·clear hW
     go_simp
    try simp only [Act.put, a0, a1, a2, a3, a4, a5]
    refine wpT (i := 12) (v := .int .i64 (s.v.load : Int)) rfl (Or.inl ⟨by rfl, fun W hW => ?_⟩) hHeld ?_
    ·clear hW
     go_simp
    try simp only [Act.put, a0, a1, a2, a3, a4, a5]
    refine wpT (i := 13) (v := .bool false) rfl (Or.inl ⟨by rfl, fun W hW => ?_⟩) hHeld ?_
    ·clear hW
     go_simp
    try simp only [Act.put, a0, a1, a2, a3, a4, a5]
    refine wpAnyH_done (by kernel_rfl) ?_ _
    have G3 := hHeld.2
    clear hHeld
    go_wp2
    go_ret2
    exact ⟨by rw [HF.out]; rfl, G3⟩
  ·go_upto_region 8 with fail
   cases xw with
   | true =>
    refine wp_region_held_drew (S := fun W => VAt W B 48 X ∧ w.grownBy W none) (by kernel_rfl) (HS0.out) (fun hHeld => ?_)
    refine wpT (i := 0) (v := .pointer (some ⟨B, 0, none⟩)) rfl (Or.inl ⟨by rfl, fun W hW => ?_⟩) hHeld ?_
    ·clear hW
     go_simp
    try simp only [Act.put, a0, a1, a3, a4, a5]
    refine wpT (i := 1) (v := .pointer (some ⟨B, 8, none⟩)) rfl (Or.inl ⟨by rfl, fun W hW => ?_⟩) hHeld ?_
    ·clear hW
     go_simp
    try simp only [Act.put, a0, a1, a2, a3, a4, a5]
    refine wpT (i := 2) (v := .int .i64 (s.v.load : Int)) rfl (Or.inl ⟨by rfl, fun W hW => ?_⟩) hHeld ?_
    ·have c8 := (HC.out W B hW.1).2
     clear hW
     go_simp
    try simp only [Act.put, a0, a1, a2, a3, a4, a5]
    refine wpT (i := 3) (v := .agg (X)) rfl (yieldsIf_load_row (by rfl) _ _ rfl B rfl 48 (X) _ (fun W hW => hW.1) Tryz.underlying48 rfl HSZ) hHeld ?_
    try simp only [Act.put, a0, a1, a2, a3, a4, a5]
    refine wpT (i := 4) (v := .int .i64 7) rfl (Or.inl ⟨by rfl, fun W hW => ?_⟩) hHeld ?_
    ·clear hW
     go_simp
    try simp only [Act.put, a0, a1, a2, a3, a4, a5]
    refine wpR (rs := [5]) (AllReadyH.cons rfl (fun K hK => ?_) AllReadyH.nil)
    go_simp
    refine (HWD.out _).mono ?_
    rintro e w2 ⟨rfl, K2⟩
    go_wp2_with fail
    refine hK.out _ _ (⟨hHeld.1.kept K2, grown_trans hHeld.2 K2⟩) (fun hHeld => ?_)
    clear hK K
    try simp only [Act.put, a0, a1, a2, a3, a4, a5]
    refine wpT (i := 6) (v := .bool true) rfl (Or.inl ⟨by rfl, fun W hW => ?_⟩) hHeld ?_
    ·clear hW
     go_simp
    try simp only [Act.put, a0, a1, a2, a3, a4, a5]
    refine wpT (i := 7) (v := .pointer (some ⟨B, 0, none⟩)) rfl (Or.inl ⟨by rfl, fun W hW => ?_⟩) hHeld ?_
    ·clear hW
     go_simp
    try simp only [Act.put, a0, a1, a2, a3, a4, a5]
    refine wpT (i := 8) (v := .pointer (some ⟨B, 8, none⟩)) rfl (Or.inl ⟨by rfl, fun W hW => ?_⟩) hHeld ?_
    ·clear hW
     go_simp
    try simp only [Act.put, a0, a1, a2, a3, a4, a5]
    refine wpT (i := 9) (v := .int .i64 (s.v.load : Int)) rfl (Or.inl ⟨by rfl, fun W hW => ?_⟩) hHeld ?_
    ·have c8 := (HC.out W B hW.1).2
     clear hW
     go_simp
    try simp only [Act.put, a0, a1, a2, a3, a4, a5]
    refine wpT (i := 10) (v := .bool ((s.v.load : Int) != 0)) rfl (Or.inl ⟨by rfl, fun W hW => ?_⟩) hHeld ?_
    ·clear hW
     go_simp
    try simp only [Act.put, a0, a1, a2, a3, a4, a5]
    refine wpT (i := 11) (v := .bool ((s.v.load : Int) != 0)) rfl (Or.inl ⟨by rfl, fun W hW => ?_⟩) hHeld ?_
    ·clear hW
     go_simp
    try simp only [Act.put, a0, a1, a2, a3, a4, a5]
    refine wpT (i := 12) (v := .int .i64 (s.v.load : Int)) rfl (Or.inl ⟨by rfl, fun W hW => ?_⟩) hHeld ?_
    ·clear hW
     go_simp
    try simp only [Act.put, a0, a1, a2, a3, a4, a5]
    refine wpT (i := 13) (v := .bool ((s.v.load : Int) != 0)) rfl (Or.inl ⟨by rfl, fun W hW => ?_⟩) hHeld ?_
    ·clear hW
     go_simp
    try simp only [Act.put, a0, a1, a2, a3, a4, a5]
    refine wpAnyH_done (by kernel_rfl) ?_ _
    have G3 := hHeld.2
    clear hHeld
    go_wp2
    go_ret2
    exact ⟨by rw [HF.out]; rfl, G3⟩
   | false =>
    refine wp_region_held_drew (S := fun W => VAt W B 48 X ∧ w.grownBy W none) (by kernel_rfl) (HS0.out) (fun hHeld => ?_)
    refine wpT (i := 0) (v := .pointer (some ⟨B, 0, none⟩)) rfl (Or.inl ⟨by rfl, fun W hW => ?_⟩) hHeld ?_
    ·clear hW
     go_simp
    try simp only [Act.put, a0, a1, a3, a4, a5]
    refine wpT (i := 1) (v := .pointer (some ⟨B, 8, none⟩)) rfl (Or.inl ⟨by rfl, fun W hW => ?_⟩) hHeld ?_
    ·clear hW
     go_simp
    try simp only [Act.put, a0, a1, a2, a3, a4, a5]
    refine wpT (i := 2) (v := .int .i64 (s.v.load : Int)) rfl (Or.inl ⟨by rfl, fun W hW => ?_⟩) hHeld ?_
    ·have c8 := (HC.out W B hW.1).2
     clear hW
     go_simp
    try simp only [Act.put, a0, a1, a2, a3, a4, a5]
    refine wpT (i := 3) (v := .agg (X)) rfl (yieldsIf_load_row (by rfl) _ _ rfl B rfl 48 (X) _ (fun W hW => hW.1) Tryz.underlying48 rfl HSZ) hHeld ?_
    try simp only [Act.put, a0, a1, a2, a3, a4, a5]
    refine wpT (i := 4) (v := .int .i64 7) rfl (Or.inl ⟨by rfl, fun W hW => ?_⟩) hHeld ?_
    ·clear hW
     go_simp
    try simp only [Act.put, a0, a1, a2, a3, a4, a5]
    refine wpR (rs := [5]) (AllReadyH.cons rfl (fun K hK => ?_) AllReadyH.nil)
    go_simp
    refine (HWD.out _).mono ?_
    rintro e w2 ⟨rfl, K2⟩
    go_wp2_with fail
    refine hK.out _ _ (⟨hHeld.1.kept K2, grown_trans hHeld.2 K2⟩) (fun hHeld => ?_)
    clear hK K
    try simp only [Act.put, a0, a1, a2, a3, a4, a5]
    refine wpT (i := 6) (v := .bool false) rfl (Or.inl ⟨by rfl, fun W hW => ?_⟩) hHeld ?_
    ·clear hW
     go_simp
    try simp only [Act.put, a0, a1, a2, a3, a4, a5]
    refine wpT (i := 7) (v := undef) rfl (Or.inr ⟨by rfl, rfl⟩) hHeld ?_
    try simp only [Act.put, a0, a1, a2, a3, a4, a5]
    refine wpT (i := 8) (v := undef) rfl (Or.inr ⟨by rfl, rfl⟩) hHeld ?_
    try simp only [Act.put, a0, a1, a2, a3, a4, a5]
    refine wpT (i := 9) (v := undef) rfl (Or.inr ⟨by rfl, rfl⟩) hHeld ?_
    try simp only [Act.put, a0, a1, a2, a3, a4, a5]
    refine wpT (i := 10) (v := undef) rfl (Or.inr ⟨by rfl, rfl⟩) hHeld ?_
    try simp only [Act.put, a0, a1, a2, a3, a4, a5]
    refine wpT (i := 11) (v := .bool false) rfl (Or.inl ⟨by rfl, fun W hW => ?_⟩) hHeld ?_
    ·clear hW
     go_simp
    try simp only [Act.put, a0, a1, a2, a3, a4, a5]
    refine wpT (i := 12) (v := .int .i64 (s.v.load : Int)) rfl (Or.inl ⟨by rfl, fun W hW => ?_⟩) hHeld ?_
    ·clear hW
     go_simp
    try simp only [Act.put, a0, a1, a2, a3, a4, a5]
    refine wpT (i := 13) (v := .bool false) rfl (Or.inl ⟨by rfl, fun W hW => ?_⟩) hHeld ?_
    ·clear hW
     go_simp
    try simp only [Act.put, a0, a1, a2, a3, a4, a5]
    refine wpAnyH_done (by kernel_rfl) ?_ _
    have G3 := hHeld.2
    clear hHeld
    go_wp2
    go_ret2
    exact ⟨by rw [HF.out]; rfl, G3⟩
 have HF : Hid (R = (s.v.pos, xw)) := by
  show R = _
  rw [HRR.out, if_neg e1, if_neg e4]
 have b1 : (of == 1) = false := by rw [beq_eq_false_iff_ne]; exact e1
 have b4 : (of == 4) = false := by rw [beq_eq_false_iff_ne]; omega
 have b5 : (of == 5) = false := by rw [beq_eq_false_iff_ne]; omega
 have b6 : (of == 6) = false := by rw [beq_eq_false_iff_ne]; omega
 have b7 : (of == 7) = false := by rw [beq_eq_false_iff_ne]; omega
 clear HRR e1 e4 K1
 go_upto_region 9 with fail
 refine wp_region_held_drew (S := fun W => VAt W B 48 X ∧ w.grownBy W none) (by kernel_rfl) (HS0.out) (fun hHeld => ?_)
 refine wpT (i := 0) (v := .pointer (some ⟨B, 0, none⟩)) rfl (Or.inl ⟨by rfl, fun W hW => ?_⟩) hHeld ?_
 ·clear hW
  go_simp
 try simp only [Act.put, a0, a1, a3, a4, a5]
 refine wpT (i := 1) (v := .pointer (some ⟨B, 5, none⟩)) rfl (Or.inl ⟨by rfl, fun W hW => ?_⟩) hHeld ?_
 ·clear hW
  go_simp
 try simp only [Act.put, a0, a1, a2, a3, a4, a5]
 refine wpT (i := 2) (v := .int .i64 (s.v.pos : Int)) rfl (Or.inl ⟨by rfl, fun W hW => ?_⟩) hHeld ?_
 ·have c5 := (HC.out W B hW.1).1
  clear hW
  go_simp
 try simp only [Act.put, a0, a1, a2, a3, a4, a5]
 refine wpT (i := 3) (v := .agg (X)) rfl (yieldsIf_load_row (by rfl) _ _ rfl B rfl 48 (X) _ (fun W hW => hW.1) Tryz.underlying48 rfl HSZ) hHeld ?_
 try simp only [Act.put, a0, a1, a2, a3, a4, a5]
 refine wpT (i := 4) (v := .int .i64 of) rfl (Or.inl ⟨by rfl, fun W hW => ?_⟩) hHeld ?_
 ·clear hW
  go_simp
 try simp only [Act.put, a0, a1, a2, a3, a4, a5]
 refine wpR (rs := [5]) (AllReadyH.cons rfl (fun K hK => ?_) AllReadyH.nil)
 go_simp
 refine (HWD.out _).mono ?_
 rintro e w2 ⟨rfl, K2⟩
 go_wp2_with fail
 refine hK.out _ _ (⟨hHeld.1.kept K2, grown_trans hHeld.2 K2⟩) (fun hHeld => ?_)
 clear hK K
 try simp only [Act.put, a0, a1, a2, a3, a4, a5]
 refine wpT (i := 6) (v := .int .i64 (s.v.pos : Int)) rfl (Or.inl ⟨by rfl, fun W hW => ?_⟩) hHeld ?_
 ·clear hW
  go_simp
 try simp only [Act.put, a0, a1, a2, a3, a4, a5]
 refine wpT (i := 7) (v := .bool xw) rfl (Or.inl ⟨by rfl, fun W hW => ?_⟩) hHeld ?_
 ·clear hW
  go_simp
 try simp only [Act.put, a0, a1, a2, a3, a4, a5]
 refine wpAnyH_done (by kernel_rfl) ?_ _
 have G3 := hHeld.2
 clear hHeld
 go_wp2
 go_ret2
 exact ⟨by rw [HF.out]; rfl, G3⟩
def relR (op : Int) (x y : Rp) : Int := if (x.ab || y.ab) = true then 0 else if (x.fl || y.fl) = true then 2 else jdg (cmpM op x.v y.v)
theorem jdg_of {x y : Bool} (h : x = y) : Ending.returned (.int .i64 (jdg x)) = .returned (.int .i64 (jdg y)) := by rw [h]
set_option maxHeartbeats 4000000 in
theorem refrel_any (n : Ng) (x y : Rp) (w : World) : Calls Tryz.prog 50 #[.agg n.cells.toArray, .agg (rpA x), .agg (rpA y)] w fun e w' => e = .returned (.int .i64 (relR n.op x y)) ∧ w.grownBy w' none := by
 have HB1 := box_ng n
 have HB2 := box_rp x
 have HB3 := box_rp y
 obtain ⟨v1, v2, v3, K1⟩ := blk3 w n.cells.toArray (rpA x) (rpA y) 52 46 46
 have n1 := v1.cell 1
 have x0 := v2.cell 0
 have x1 := v2.cell 1
 have x2 := v2.cell 2
 have y0 := v3.cell 0
 have y1 := v3.cell 1
 have y2 := v3.cell 2
 rw [show n.cells.toArray[1]? = some (.int .i64 n.op) from rfl] at n1
 rw [show (rpA x)[0]? = some (.int .u32 (x.v : Int)) from rfl] at x0
 rw [show (rpA x)[1]? = some (.bool x.ab) from rfl] at x1
 rw [show (rpA x)[2]? = some (.bool x.fl) from rfl] at x2
 rw [show (rpA y)[0]? = some (.int .u32 (y.v : Int)) from rfl] at y0
 rw [show (rpA y)[1]? = some (.bool y.ab) from rfl] at y1
 rw [show (rpA y)[2]? = some (.bool y.fl) from rfl] at y2
 clear v1 v2 v3
 obtain ⟨NA, hNA⟩ : ∃ A, n.cells.toArray = A := ⟨_, rfl⟩
 obtain ⟨XA, hXA⟩ : ∃ A, rpA x = A := ⟨_, rfl⟩
 obtain ⟨YA, hYA⟩ : ∃ A, rpA y = A := ⟨_, rfl⟩
 rw [hNA, hXA, hYA] at n1 x0 x1 x2 y0 y1 y2 K1
 rw [hNA] at HB1
 rw [hXA] at HB2
 rw [hYA] at HB3
 rw [hNA, hXA, hYA]
 clear hNA hXA hYA
 obtain ⟨R, hR⟩ : ∃ R, relR n.op x y = R := ⟨_, rfl⟩
 rw [hR]
 have HR : Hid (relR n.op x y = R) := hR
 clear hR
 generalize n.op = op at *
 obtain ⟨xv, xa, xf, xs⟩ := x
 obtain ⟨yv, ya, yf, ys⟩ := y
 simp only at x0 x1 x2 y0 y1 y2
 go_enter Tryz.func50, Tryz.ntmps50
 go_upto_region 1 with fail
 generalize ((w.alloc (.cells NA 52)).alloc (.cells XA 46)).alloc (.cells YA 46) = w1 at *
 generalize w.heap.size = B at *
 clear HB1 HB2 HB3
 cases xa with
 | true =>
  have HF : Hid (R = 0) := HR.out.symm
  clear HR
  go_wp2
  go_ret
  exact ⟨by rw [HF.out]; rfl, K1⟩
 | false =>
  cases ya with
  | true =>
   have HF : Hid (R = 0) := HR.out.symm
   clear HR
   go_wp2
   go_ret
   exact ⟨by rw [HF.out]; rfl, K1⟩
  | false =>
   cases xf with
   | true =>
    have HF : Hid (R = 2) := HR.out.symm
    clear HR
    go_wp2
    go_ret
    exact ⟨by rw [HF.out]; rfl, K1⟩
   | false =>
    cases yf with
    | true =>
     have HF : Hid (R = 2) := HR.out.symm
     clear HR
     go_wp2
     go_ret
     exact ⟨by rw [HF.out]; rfl, K1⟩
    | false =>
     have HF : Hid (R = jdg (cmpM op xv yv)) := HR.out.symm
     clear HR
     go_upto_region 5 with fail
     go_quiet (fail)
     clear x0 x1 x2 y0 y1 y2
     by_cases h1 : op = 1
     ·subst h1
      go_wp2_with fail
      refine (refjdg_any _ _).mono ?_
      rintro e w3 ⟨rfl, hw3⟩
      subst hw3
      go_wp2
      go_ret
      refine ⟨?_, grown_trans K1 (grown_drewN _ _ none)⟩
      rw [HF.out]
      exact jdg_of (by first | rfl | exact nat_beq xv yv | exact nat_bne xv yv | (rw [Bool.eq_iff_iff]; simp [cmpM]))
     by_cases h2 : op = 2
     ·subst h2
      go_wp2_with fail
      refine (refjdg_any _ _).mono ?_
      rintro e w3 ⟨rfl, hw3⟩
      subst hw3
      go_wp2
      go_ret
      refine ⟨?_, grown_trans K1 (grown_drewN _ _ none)⟩
      rw [HF.out]
      exact jdg_of (by first | rfl | exact nat_beq xv yv | exact nat_bne xv yv | (rw [Bool.eq_iff_iff]; simp [cmpM]))
     by_cases h3 : op = 3
     ·subst h3
      go_wp2_with fail
      refine (refjdg_any _ _).mono ?_
      rintro e w3 ⟨rfl, hw3⟩
      subst hw3
      go_wp2
      go_ret
      refine ⟨?_, grown_trans K1 (grown_drewN _ _ none)⟩
      rw [HF.out]
      exact jdg_of (by first | rfl | exact nat_beq xv yv | exact nat_bne xv yv | (rw [Bool.eq_iff_iff]; simp [cmpM]))
     by_cases h4 : op = 4
     ·subst h4
      go_wp2_with fail
      refine (refjdg_any _ _).mono ?_
      rintro e w3 ⟨rfl, hw3⟩
      subst hw3
      go_wp2
      go_ret
      refine ⟨?_, grown_trans K1 (grown_drewN _ _ none)⟩
      rw [HF.out]
      exact jdg_of (by first | rfl | exact nat_beq xv yv | exact nat_bne xv yv | (rw [Bool.eq_iff_iff]; simp [cmpM]))
     by_cases h5 : op = 5
     ·subst h5
      go_wp2_with fail
      refine (refjdg_any _ _).mono ?_
      rintro e w3 ⟨rfl, hw3⟩
      subst hw3
      go_wp2
      go_ret
      refine ⟨?_, grown_trans K1 (grown_drewN _ _ none)⟩
      rw [HF.out]
      exact jdg_of (by first | rfl | exact nat_beq xv yv | exact nat_bne xv yv | (rw [Bool.eq_iff_iff]; simp [cmpM]))
     have b1 : (op == 1) = false := by rw [beq_eq_false_iff_ne]; exact h1
     have b2 : (op == 2) = false := by rw [beq_eq_false_iff_ne]; exact h2
     have b3 : (op == 3) = false := by rw [beq_eq_false_iff_ne]; exact h3
     have b4 : (op == 4) = false := by rw [beq_eq_false_iff_ne]; exact h4
     have b5 : (op == 5) = false := by rw [beq_eq_false_iff_ne]; exact h5
     have HF2 : Hid (R = jdg (decide (yv ≤ xv))) := by
      show R = _
      rw [HF.out]
      unfold cmpM
      rw [if_neg h1, if_neg h2, if_neg h3, if_neg h4, if_neg h5]
     clear h1 h2 h3 h4 h5 HF
     go_wp2_with fail
     refine (refjdg_any _ _).mono ?_
     rintro e w3 ⟨rfl, hw3⟩
     subst hw3
     go_wp2
     go_ret
     refine ⟨?_, grown_trans K1 (grown_drewN _ _ none)⟩
     rw [HF2.out]
     exact jdg_of (by first | rfl | (rw [Bool.eq_iff_iff]; simp))
def arithR (op : Int) (x y : Rp) : Rp :=
 if (x.ab || y.ab || (x.fl || y.fl)) = true then ⟨0, x.ab || y.ab, x.fl || y.fl, 0⟩
 else if divG op = true ∧ y.v = 0 then ⟨0, false, true, 0⟩ else ⟨arithG op x.v y.v, false, false, 0⟩
set_option maxHeartbeats 1000000 in
theorem refarith_zero (op : Int) (a : Nat) (ha : a ≤ 4294967295) (h : divG op = true) (w : World) :
  Calls Tryz.prog 72 #[.int .i64 op, .int .u32 (a : Int), .int .u32 0] w fun e w' => e = .returned (.tuple #[.int .u32 0, .bool false]) ∧ w = w' := by
 have h2 : op = 4 ∨ op = 5 := of_decide_eq_true h
 clear h
 rcases h2 with rfl | rfl
 ·have CO := operate_any 52 a 0 w ha (by omega)
  have hd : bits .andNot .u16 52 8 = 52 := by decide
  rw [hd, show operV 52 a 0 = (0, 2) by simp [operV]] at CO
  clear hd
  go_enter Tryz.func72, Tryz.ntmps72
  go_wp2_with fail
  refine CO.mono ?_
  rintro e w1 ⟨rfl, rfl⟩
  go_wp2
  go_ret2
  exact ⟨rfl, rfl⟩
 ·have CO := operate_any 148 a 0 w ha (by omega)
  have hd : bits .andNot .u16 148 8 = 148 := by decide
  rw [hd, show operV 148 a 0 = (0, 2) by simp [operV]] at CO
  clear hd
  go_enter Tryz.func72, Tryz.ntmps72
  go_wp2_with fail
  refine CO.mono ?_
  rintro e w1 ⟨rfl, rfl⟩
  go_wp2
  go_ret2
  exact ⟨rfl, rfl⟩

end Go.Proofs.YtcodofamdhcfiaaGreat
