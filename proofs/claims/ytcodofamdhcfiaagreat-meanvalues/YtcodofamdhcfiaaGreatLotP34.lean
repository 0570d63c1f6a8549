import Derived.Test.YtcodofamdhcfiaaGreatAb
import Derived.Test.YtcodofamdhcfiaaGreatLotP31
import Derived.Test.YtcodofamdhcfiaaGreatLotP32
import Derived.Test.YtcodofamdhcfiaaGreatRmF
import Derived.Test.YtcodofamdhcfiaaGreatLotP23
namespace Go.Proofs.YtcodofamdhcfiaaGreat
open Go.RowKit
set_option maxRecDepth 100000
def noPortR (v : Vw) (of : Int) : Bool := decide (v.load = 0) || !(wordM v 4 && (of != 5) || wordM v 5 && (of != 4))
theorem ports_eq (s : Sg) (n : Ng) (ho : n.of = 0 ∨ n.of = 4 ∨ n.of = 5) : portsM s n = if noPortR s.v n.of = true then 0 else sidedM n.side (portM s n s.v.load) (portM s n (s.v.load + 2)) := by
 have b4 : baseM s.v 4 = (s.v.load, wordM s.v 4 && decide (s.v.load ≠ 0)) := rfl
 have b5 : baseM s.v 5 = (s.v.load, wordM s.v 5 && decide (s.v.load ≠ 0)) := rfl
 have hc : carrierM s.v n.of = (s.v.load, !noPortR s.v n.of) := by
  unfold carrierM noPortR
  rcases ho with e | e | e
  ·rw [e, if_neg (by simp), b4, b5]
   by_cases h0 : s.v.load = 0
   ·simp [h0]
   ·cases wordM s.v 4 <;> cases wordM s.v 5 <;> simp [h0]
  ·rw [e, if_pos (by simp), b4]
   by_cases h0 : s.v.load = 0
   ·simp [h0]
   ·cases wordM s.v 4 <;> simp [h0]
  ·rw [e, if_pos (by simp), b5]
   by_cases h0 : s.v.load = 0
   ·simp [h0]
   ·cases wordM s.v 5 <;> simp [h0]
 unfold portsM
 rw [hc]
 cases noPortR s.v n.of <;> simp
set_option maxRecDepth 100000 in
set_option maxHeartbeats 16000000 in
theorem refports_any (s : Sg) (a : Option Addr) (ca : Nat) (n : Ng) (w : World) (hb : Cells w a s.b) (hl : s.b.length ≤ 65535) (hld : s.v.load ≤ 65535) (ho : n.of = 0 ∨ n.of = 4 ∨ n.of = 5) :
  Calls Tryz.prog 47 #[.agg (sgA s a ca), .agg n.cells.toArray] w fun e w' => e = .returned (.int .i64 (portsM s n)) ∧ w.grownBy w' none := by
 have HB1 := box_sg14 s a ca
 have HB2 := box_ng n
 have HV : Hid _ := blk2 w (sgA s a ca) n.cells.toArray 48 52
 have HW4 : Hid (∀ W, Calls Tryz.prog 44 #[.agg (sgA s a ca), .int .i64 4] W fun e w' => e = .returned (.bool (wordM s.v 4)) ∧ W.grownBy w' none) := fun W => by
  have := refword_any s a ca 4 W
  rw [wordR_eq s.v (by decide) (by decide)] at this
  exact this
 have HW5 : Hid (∀ W, Calls Tryz.prog 44 #[.agg (sgA s a ca), .int .i64 5] W fun e w' => e = .returned (.bool (wordM s.v 5)) ∧ W.grownBy w' none) := fun W => by
  have := refword_any s a ca 5 W
  rw [wordR_eq s.v (by decide) (by decide)] at this
  exact this
 have HP1 : Hid (∀ W, w.grownBy W none → Calls Tryz.prog 70 #[.agg (sgA s a ca), .agg n.cells.toArray, .int .i64 (s.v.load : Int)] W fun e w' => e = .returned (.int .i64 (portM s n s.v.load)) ∧ W.grownBy w' none) := fun W K => refport_any s a ca n s.v.load W (hb.keptNone K) hl
 have HP2 : Hid (∀ W, w.grownBy W none → Calls Tryz.prog 70 #[.agg (sgA s a ca), .agg n.cells.toArray, .int .i64 ((s.v.load : Int) + 2)] W fun e w' => e = .returned (.int .i64 (portM s n (s.v.load + 2))) ∧ W.grownBy w' none) := fun W K => refport_any s a ca n (s.v.load + 2) W (hb.keptNone K) hl
 have HSS := sg_size s a ca
 have HNS := ng_size n
 obtain ⟨SA, hSA⟩ : ∃ A, sgA s a ca = A := ⟨_, rfl⟩
 obtain ⟨NA, hNA⟩ : ∃ A, n.cells.toArray = A := ⟨_, rfl⟩
 have HNX : Hid (sgA s a ca = SA ∧ n.cells.toArray = NA) := ⟨hSA, hNA⟩
 rw [hSA, hNA] at HV HP1 HP2
 rw [hSA] at HB1 HW4 HW5 HSS
 rw [hNA] at HB2 HNS
 rw [hSA, hNA]
 clear hSA hNA hb
 obtain ⟨R, hR⟩ : ∃ R, portsM s n = R := ⟨_, rfl⟩
 rw [hR]
 rw [ports_eq s n ho] at hR
 obtain ⟨t4, ht4⟩ : ∃ x, wordM s.v 4 = x := ⟨_, rfl⟩
 obtain ⟨t5, ht5⟩ : ∃ x, wordM s.v 5 = x := ⟨_, rfl⟩
 obtain ⟨bad, hbad⟩ : ∃ x, noPortR s.v n.of = x := ⟨_, rfl⟩
 rw [hbad] at hR
 unfold noPortR at hbad
 rw [ht4, ht5] at hbad
 rw [ht4] at HW4
 rw [ht5] at HW5
 have HBD : Hid ((decide (s.v.load = 0) || !(t4 && (n.of != 5) || t5 && (n.of != 4))) = bad) := hbad
 have HR : Hid (R = if bad = true then 0 else sidedM n.side (portM s n s.v.load) (portM s n (s.v.load + 2))) := hR.symm
 clear hR ht4 ht5 hbad
 obtain ⟨p1, hp1⟩ : ∃ x, portM s n s.v.load = x := ⟨_, rfl⟩
 obtain ⟨p2, hp2⟩ : ∃ x, portM s n (s.v.load + 2) = x := ⟨_, rfl⟩
 rw [hp1] at HP1 HR
 rw [hp2] at HP2 HR
 clear hp1 hp2
 go_enter Tryz.func47, Tryz.ntmps47
 go_upto_region 1 with fail
 generalize (w.alloc (.cells SA 48)).alloc (.cells NA 52) = w1 at *
 generalize w.heap.size = B at *
 clear HB1 HB2
 obtain ⟨v1, v2, K1⟩ := HV.out
 have HV1 : Hid (VAt w1.drew B 48 SA ∧ VAt w1.drew (B + 1) 52 NA ∧ w.grownBy w1.drew none) := ⟨v1.kept (grown_drewN w1 1 none), v2.kept (grown_drewN w1 1 none), grown_trans K1 (grown_drewN w1 1 none)⟩
 have HC : Hid ((∀ W, VAt W B 48 SA → W.cell? ⟨B, 8, none⟩ = some (.int .i64 (s.v.load : Int))) ∧ (∀ W, VAt W (B + 1) 52 NA → W.cell? ⟨B + 1, 5, none⟩ = some (.int .i64 n.of) ∧ W.cell? ⟨B + 1, 6, none⟩ = some (.int .i64 n.side))) := by
  refine ⟨fun W h => ?_, fun W h => ?_⟩
  ·rw [← HNX.out.1] at h
   exact h.cell 8
  ·rw [← HNX.out.2] at h
   exact ⟨h.cell 5, h.cell 6⟩
 clear HV HNX v1 v2 K1
 refine wp_region_held_drew (S := fun W => VAt W B 48 SA ∧ VAt W (B + 1) 52 NA ∧ w.grownBy W none) (by kernel_rfl) (HV1.out) (fun hHeld => ?_)
 refine wpT (i := 0) (v := .agg (SA)) rfl (yieldsIf_load_row (by rfl) _ _ rfl B rfl 48 (SA) _ (fun W hW => hW.1) Tryz.underlying48 rfl HSS) hHeld ?_
 try simp only [Act.put, a0, a1, a3, a4, a5]
 refine wpT (i := 2) (v := .agg (SA)) rfl (yieldsIf_load_row (by rfl) _ _ rfl B rfl 48 (SA) _ (fun W hW => hW.1) Tryz.underlying48 rfl HSS) hHeld ?_
 try simp only [Act.put, a0, a1, a2, a3, a4, a5]
 refine wpR (rs := [1]) (AllReadyH.cons rfl (fun K hK => ?_) AllReadyH.nil)
 go_simp
 refine (HW4.out _).mono ?_
 rintro e wa ⟨rfl, K2⟩
 go_wp2_with fail
 refine hK.out _ _ (⟨hHeld.1.kept K2, hHeld.2.1.kept K2, grown_trans hHeld.2.2 K2⟩) (fun hHeld => ?_)
 clear hK K
 try simp only [Act.put, a0, a1, a2, a3, a4, a5]
 refine wpR (rs := [3]) (AllReadyH.cons rfl (fun K hK => ?_) AllReadyH.nil)
 go_simp
 refine (HW5.out _).mono ?_
 rintro e wb ⟨rfl, K3⟩
 go_wp2_with fail
 refine hK.out _ _ (⟨hHeld.1.kept K3, hHeld.2.1.kept K3, grown_trans hHeld.2.2 K3⟩) (fun hHeld => ?_)
 clear hK K
 try simp only [Act.put, a0, a1, a2, a3, a4, a5]
 refine wpT (i := 4) (v := .bool t4) rfl (Or.inl ⟨by rfl, fun W hW => ?_⟩) hHeld ?_
 ·clear hW
  go_simp
 try simp only [Act.put, a0, a1, a2, a3, a4, a5]
 refine wpT (i := 5) (v := .bool t5) rfl (Or.inl ⟨by rfl, fun W hW => ?_⟩) hHeld ?_
 ·clear hW
  go_simp
 try simp only [Act.put, a0, a1, a2, a3, a4, a5]
 refine wpAnyH_done (by kernel_rfl) ?_ _
 have HV2 : Hid (VAt _ B 48 SA ∧ VAt _ (B + 1) 52 NA ∧ w.grownBy _ none) := hHeld
 obtain ⟨w2, hw2⟩ : ∃ W, wb = W := ⟨_, rfl⟩
 rw [hw2] at HV2 ⊢
 clear hHeld HV1 hw2 K2 K3 HW4 HW5
 have s8 := HC.out.1 w2 HV2.out.1
 have n5 := (HC.out.2 w2 HV2.out.2.1).1
 have n6 := (HC.out.2 w2 HV2.out.2.1).2
 go_upto_region 2 with fail
 go_cut [31] from 11 to 31 (fun c wx => c = .bool bad ∧ wx = w2)
 case first =>
  have hbd := HBD.out
  have HBD2 := HBD
  clear n6 HR HP1 HP2 HBD
  cases hl0 : ((s.v.load : Int) == 0) with
  | true =>
   have h0 : decide (s.v.load = 0) = true := by
    have := beq_iff_eq.1 hl0
    exact decide_eq_true (by omega)
   rw [h0] at hbd
   have HX : Hid (bad = true) := hbd.symm
   clear hbd h0 HBD2
   go_wp2
   go_meet
   exact ⟨by rw [HX.out], rfl⟩
  | false =>
   have h0 : decide (s.v.load = 0) = false := by
    have := beq_eq_false_iff_ne.1 hl0
    exact decide_eq_false (by omega)
   rw [h0] at hbd
   clear h0 HBD2
   rcases ho with ho | ho | ho
   ·rw [ho] at n5 hbd
    clear ho
    cases t4 with
    | true =>
     cases t5 with
     | true =>
      have HX : Hid (bad = false) := hbd.symm
      clear hbd
      go_wp2
      go_meet
      exact ⟨by rw [HX.out], rfl⟩
     | false =>
      have HX : Hid (bad = false) := hbd.symm
      clear hbd
      go_wp2
      go_meet
      exact ⟨by rw [HX.out], rfl⟩
    | false =>
     cases t5 with
     | true =>
      have HX : Hid (bad = false) := hbd.symm
      clear hbd
      go_wp2
      go_meet
      exact ⟨by rw [HX.out], rfl⟩
     | false =>
      have HX : Hid (bad = true) := hbd.symm
      clear hbd
      go_wp2
      go_meet
      exact ⟨by rw [HX.out], rfl⟩
   ·rw [ho] at n5 hbd
    clear ho
    cases t4 with
    | true =>
     cases t5 with
     | true =>
      have HX : Hid (bad = false) := hbd.symm
      clear hbd
      go_wp2
      go_meet
      exact ⟨by rw [HX.out], rfl⟩
     | false =>
      have HX : Hid (bad = false) := hbd.symm
      clear hbd
      go_wp2
      go_meet
      exact ⟨by rw [HX.out], rfl⟩
    | false =>
     cases t5 with
     | true =>
      have HX : Hid (bad = true) := hbd.symm
      clear hbd
      go_wp2
      go_meet
      exact ⟨by rw [HX.out], rfl⟩
     | false =>
      have HX : Hid (bad = true) := hbd.symm
      clear hbd
      go_wp2
      go_meet
      exact ⟨by rw [HX.out], rfl⟩
   ·rw [ho] at n5 hbd
    clear ho
    cases t4 with
    | true =>
     cases t5 with
     | true =>
      have HX : Hid (bad = false) := hbd.symm
      clear hbd
      go_wp2
      go_meet
      exact ⟨by rw [HX.out], rfl⟩
     | false =>
      have HX : Hid (bad = true) := hbd.symm
      clear hbd
      go_wp2
      go_meet
      exact ⟨by rw [HX.out], rfl⟩
    | false =>
     cases t5 with
     | true =>
      have HX : Hid (bad = false) := hbd.symm
      clear hbd
      go_wp2
      go_meet
      exact ⟨by rw [HX.out], rfl⟩
     | false =>
      have HX : Hid (bad = true) := hbd.symm
      clear hbd
      go_wp2
      go_meet
      exact ⟨by rw [HX.out], rfl⟩
 case rest =>
 obtain ⟨rfl, hwc⟩ := hcut
 have hw2 : w2 = wc := hwc.symm
 clear hwc
 subst hw2
 clear s8 n5
 cases bad with
 | true =>
  have HF : Hid (R = 0) := HR.out
  clear HR
  go_wp2
  go_ret
  exact ⟨by rw [HF.out]; rfl, HV2.out.2.2⟩
 | false =>
 have HF : Hid (R = sidedM n.side p1 p2) := HR.out
 clear HR
 have hld2 : (s.v.load : Int) + 2 ≤ 70000 := by omega
 generalize n.side = sd at *
 by_cases h1 : sd = 1
 ·subst h1
  have s8 := HC.out.1 w2 HV2.out.1
  go_wp2_with (first
   | (refine wpList_load_row rfl 48 (.tmp 2) rfl B rfl 48 SA (0, 0) _ HV2.out.1 Tryz.underlying48 rfl HSS ?_)
   | (refine wpList_load_row rfl 52 (.tmp 3) rfl (B + 1) rfl 52 NA (0, 0) _ HV2.out.2.1 Tryz.underlying52 rfl HNS ?_))
  refine (HP1.out w2 HV2.out.2.2).mono ?_
  rintro e w9 ⟨rfl, K9⟩
  have G9 := grown_trans HV2.out.2.2 K9
  clear K9 s8
  go_wp2
  go_ret
  exact ⟨by rw [HF.out]; rfl, G9⟩
 by_cases h2 : sd = 2
 ·subst h2
  have s8 := HC.out.1 w2 HV2.out.1
  go_wp2_with (first
   | (refine wpList_load_row rfl 48 (.tmp 2) rfl B rfl 48 SA (0, 0) _ HV2.out.1 Tryz.underlying48 rfl HSS ?_)
   | (refine wpList_load_row rfl 52 (.tmp 3) rfl (B + 1) rfl 52 NA (0, 0) _ HV2.out.2.1 Tryz.underlying52 rfl HNS ?_))
  refine (HP2.out w2 HV2.out.2.2).mono ?_
  rintro e w9 ⟨rfl, K9⟩
  have G9 := grown_trans HV2.out.2.2 K9
  clear K9 s8
  go_wp2
  go_ret
  exact ⟨by rw [HF.out]; rfl, G9⟩
 have b1 : (sd == 1) = false := by rw [beq_eq_false_iff_ne]; exact h1
 have b2 : (sd == 2) = false := by rw [beq_eq_false_iff_ne]; exact h2
 have HF2 : Hid (R = orM p1 p2) := by
  show R = _
  rw [HF.out]
  unfold sidedM
  rw [if_neg h1, if_neg h2]
 clear HF h1 h2
 go_upto_region 9 with fail
 have HV3 : Hid (VAt w2.drew B 48 SA ∧ VAt w2.drew (B + 1) 52 NA ∧ w.grownBy w2.drew none) := by
  have K5 := grown_drewN w2 1 none
  exact ⟨HV2.out.1.kept K5, HV2.out.2.1.kept K5, grown_trans HV2.out.2.2 K5⟩
 have hwr : IntKind.i64.wrap ((s.v.load : Int) + 2) = (s.v.load : Int) + 2 := by rw [IntKind.wrap_i64]; omega
 clear HV2
 refine wp_region_held_drew (S := fun W => VAt W B 48 SA ∧ VAt W (B + 1) 52 NA ∧ w.grownBy W none) (by kernel_rfl) (HV3.out) (fun hHeld => ?_)
 refine wpT (i := 0) (v := .agg (SA)) rfl (yieldsIf_load_row (by rfl) _ _ rfl B rfl 48 (SA) _ (fun W hW => hW.1) Tryz.underlying48 rfl HSS) hHeld ?_
 try simp only [Act.put, a0, a1, a3, a4, a5]
 refine wpT (i := 1) (v := .agg (NA)) rfl (yieldsIf_load_row (by rfl) _ _ rfl (B + 1) rfl 52 (NA) _ (fun W hW => hW.2.1) Tryz.underlying52 rfl HNS) hHeld ?_
 try simp only [Act.put, a0, a1, a2, a3, a4, a5]
 refine wpT (i := 2) (v := .pointer (some ⟨B, 0, none⟩)) rfl (Or.inl ⟨by rfl, fun W hW => ?_⟩) hHeld ?_
 ·clear hW
  go_simp
 try simp only [Act.put, a0, a1, a2, a3, a4, a5]
 refine wpT (i := 3) (v := .pointer (some ⟨B, 8, none⟩)) rfl (Or.inl ⟨by rfl, fun W hW => ?_⟩) hHeld ?_
 ·clear hW
  go_simp
 try simp only [Act.put, a0, a1, a2, a3, a4, a5]
 refine wpT (i := 4) (v := .int .i64 (s.v.load : Int)) rfl (Or.inl ⟨by rfl, fun W hW => ?_⟩) hHeld ?_
 ·have c8 := HC.out.1 W hW.1
  clear hW
  go_simp
 try simp only [Act.put, a0, a1, a2, a3, a4, a5]
 refine wpT (i := 6) (v := .agg (SA)) rfl (yieldsIf_load_row (by rfl) _ _ rfl B rfl 48 (SA) _ (fun W hW => hW.1) Tryz.underlying48 rfl HSS) hHeld ?_
 try simp only [Act.put, a0, a1, a2, a3, a4, a5]
 refine wpT (i := 7) (v := .agg (NA)) rfl (yieldsIf_load_row (by rfl) _ _ rfl (B + 1) rfl 52 (NA) _ (fun W hW => hW.2.1) Tryz.underlying52 rfl HNS) hHeld ?_
 try simp only [Act.put, a0, a1, a2, a3, a4, a5]
 refine wpT (i := 8) (v := .pointer (some ⟨B, 0, none⟩)) rfl (Or.inl ⟨by rfl, fun W hW => ?_⟩) hHeld ?_
 ·clear hW
  go_simp
 try simp only [Act.put, a0, a1, a2, a3, a4, a5]
 refine wpT (i := 9) (v := .pointer (some ⟨B, 8, none⟩)) rfl (Or.inl ⟨by rfl, fun W hW => ?_⟩) hHeld ?_
 ·clear hW
  go_simp
 try simp only [Act.put, a0, a1, a2, a3, a4, a5]
 refine wpT (i := 10) (v := .int .i64 (s.v.load : Int)) rfl (Or.inl ⟨by rfl, fun W hW => ?_⟩) hHeld ?_
 ·have c8 := HC.out.1 W hW.1
  clear hW
  go_simp
 try simp only [Act.put, a0, a1, a2, a3, a4, a5]
 refine wpT (i := 11) (v := .int .i64 ((s.v.load : Int) + 2)) rfl (Or.inl ⟨by rfl, fun W hW => ?_⟩) hHeld ?_
 ·clear hW
  go_simp
 try simp only [Act.put, a0, a1, a2, a3, a4, a5]
 refine wpR (rs := [5]) (AllReadyH.cons rfl (fun K hK => ?_) AllReadyH.nil)
 go_simp
 refine (HP1.out _ hHeld.2.2).mono ?_
 rintro e wa ⟨rfl, K2⟩
 go_wp2_with fail
 refine hK.out _ _ (⟨hHeld.1.kept K2, hHeld.2.1.kept K2, grown_trans hHeld.2.2 K2⟩) (fun hHeld => ?_)
 clear hK K
 try simp only [Act.put, a0, a1, a2, a3, a4, a5]
 refine wpR (rs := [12]) (AllReadyH.cons rfl (fun K hK => ?_) AllReadyH.nil)
 go_simp
 refine (HP2.out _ hHeld.2.2).mono ?_
 rintro e wb ⟨rfl, K3⟩
 go_wp2_with fail
 refine hK.out _ _ (⟨hHeld.1.kept K3, hHeld.2.1.kept K3, grown_trans hHeld.2.2 K3⟩) (fun hHeld => ?_)
 clear hK K
 try simp only [Act.put, a0, a1, a2, a3, a4, a5]
 refine wpR (rs := [13]) (AllReadyH.cons rfl (fun K hK => ?_) AllReadyH.nil)
 go_simp
 refine (refor14_any p1 p2 _).mono ?_
 rintro e wo ⟨rfl, hwo⟩
 subst hwo
 go_wp2_with fail
 refine hK.out _ _ hHeld (fun hHeld => ?_)
 clear hK K
 try simp only [Act.put, a0, a1, a2, a3, a4, a5]
 refine wpT (i := 14) (v := .int .i64 (orM p1 p2)) rfl (Or.inl ⟨by rfl, fun W hW => ?_⟩) hHeld ?_
 ·clear hW
  go_simp
 try simp only [Act.put, a0, a1, a2, a3, a4, a5]
 refine wpAnyH_done (by kernel_rfl) ?_ _
 have G9 := hHeld.2.2
 clear hHeld
 go_wp2
 go_ret
 exact ⟨by rw [HF2.out]; rfl, G9⟩
theorem yieldsIf_bld14 {P : Program} {ops : Array Oper} {S : World → Prop} {op : Oper} {a : Act} (hw : Region.wanted op (yielded ops a.tmps) = true) (t : TypeId) (ps : Array (Nat × Operand)) (ho : op.op = .build t ps) (qs : Array (Nat × Value)) (hq : ps.map (fun (i, x) => (i, a.eval x)) = qs) (v : Value) (hr : ∀ W : World, (Instr.build t qs).run P W = .ok v W) : YieldsIf P ops S op v a :=
 .inl ⟨hw, fun w _ => by
  unfold execOp
  have hr' := hr w
  rw [← hq] at hr'
  simp only [ho, Sem.run_bind, Sem.run_pure, Result.andThen_ok, hr']⟩
structure S14 (w W : World) (B : Nat) (SA NA : Array Value) : Prop where
 s : VAt W B 48 SA
 n : VAt W (B + 1) 52 NA
 r : ∃ A : Array Value, VAt W (B + 2) 46 A ∧ A.size = 4
 up : w.grownBy W none
theorem S14.kept {w W W' : World} {B : Nat} {SA NA : Array Value} (h : S14 w W B SA NA) (K : W.grownBy W' none) : S14 w W' B SA NA :=
 ⟨h.s.kept K, h.n.kept K, h.r.elim fun A hA => ⟨A, hA.1.kept K, hA.2⟩, grown_trans h.up K⟩
theorem S14.put {w W : World} {B : Nat} {SA NA : Array Value} (h : S14 w W B SA NA) (q : Rp) (hB : w.heap.size ≤ B + 2) : S14 w (W.setRow (B + 2) (rpA q)) B SA NA ∧ VAt (W.setRow (B + 2) (rpA q)) (B + 2) 46 (rpA q) ∧ w.grownBy (W.setRow (B + 2) (rpA q)) none := by
 obtain ⟨A, hA, -⟩ := h.r
 have K : W.grownBy (W.setRow (B + 2) (rpA q)) (some (B + 2)) := vgrown_setRow (World.grownBy.refl _ _) _ _ (.inl rfl)
 have G : w.grownBy (W.setRow (B + 2) (rpA q)) none := vgrown_setRow h.up _ _ (.inr hB)
 have V := hA.setRow (rpA q)
 exact ⟨⟨h.s.grown K (fun e => by have := Option.some.inj e; omega), h.n.grown K (fun e => by have := Option.some.inj e; omega), ⟨_, V, rfl⟩, G⟩, V, G⟩
structure LfOk (n : Ng) : Prop where
 kind : n.kind = 1 ∨ n.kind = 2 ∨ (10 ≤ n.kind ∧ n.kind ≤ 16)
 side : n.kind = 10 → n.side = 1 ∨ n.side = 2
 of11 : n.kind = 11 → 2 ≤ n.of ∧ n.of ≤ 13
 of13 : n.kind = 13 → 2 ≤ n.of ∧ n.of ≤ 3
 ofs : n.kind = 14 ∨ n.kind = 15 → n.of = 2 ∨ n.of = 3
 bits : n.kind = 15 → (0 ≤ n.bits ∧ n.bits ≤ 8 * (longM n.of : Int)) ∧ maskV n.bits.toNat (addrG n) = addrG n
 of16 : n.kind = 16 → n.of = 0 ∨ n.of = 4 ∨ n.of = 5
theorem in_out {x lo hi : Int} (h : inG x lo hi = true) : lo ≤ x ∧ x ≤ hi := by
 unfold inG at h
 have h6 := Bool.and_eq_true_iff.1 h
 exact ⟨of_decide_eq_true h6.1, of_decide_eq_true h6.2⟩
theorem lfok_of {n : Ng} {ps : List Pt} (ha : arG n.kind = some 0) (hf : faultG n ps = 0) : LfOk n := by
 have hk : n.kind = 1 ∨ n.kind = 2 ∨ (10 ≤ n.kind ∧ n.kind ≤ 16) := by
  rcases arG_cases ha with ⟨h, -⟩ | ⟨h, -⟩ | ⟨-, h⟩
  ·cases h
  ·cases h
  ·omega
 obtain ⟨h1, -, -, h4⟩ := mfault_zero hf
 have hm : mayG n = true := (Bool.and_eq_true_iff.1 h1).2
 refine ⟨hk, fun h => ?_, fun h => ?_, fun h => ?_, fun h => (trok_of (by omega) hf).ofs h, fun h => ⟨(trok_of (by omega) hf).bits h, ?_⟩, fun h => ?_⟩
 ·unfold mayG at hm
  rw [if_neg (by omega), if_neg (by omega), if_neg (by omega), if_pos h] at hm
  have := in_out hm
  omega
 ·unfold mayG at hm
  rw [if_neg (by omega), if_neg (by omega), if_neg (by omega), if_neg (by omega), if_pos h] at hm
  exact in_out hm
 ·unfold mayG at hm
  rw [if_neg (by omega), if_neg (by omega), if_neg (by omega), if_neg (by omega), if_neg (by omega), if_pos h] at hm
  exact in_out hm
 ·unfold rangeE at h4
  rw [if_neg (by omega), if_neg (by omega), if_neg (by omega), if_neg (by omega), if_pos h] at h4
  split at h4
  ·exact absurd h4 (by decide)
  ·split at h4
   ·assumption
   ·exact absurd h4 (by decide)
 ·unfold mayG at hm
  rw [if_neg (by omega), if_neg (by omega), if_neg (by omega), if_neg (by omega), if_neg (by omega), if_neg (by omega), if_neg (by omega), if_pos h] at hm
  have h5 := (Bool.and_eq_true_iff.1 hm).1
  rcases Bool.or_eq_true_iff.1 h5 with h6 | h6
  ·exact .inl (beq_iff_eq.1 h6)
  ·have := in_out h6
   omega
def leafR (s : Sg) (n : Ng) : Rp := if n.kind = 1 then ⟨n.n, false, false, 0⟩ else if n.kind = 2 then ⟨s.b.length, false, false, 0⟩ else ⟨0, false, false, truthM s n⟩
theorem leafR_t {s : Sg} {n : Ng} (h : 10 ≤ n.kind) : leafR s n = ⟨0, false, false, truthM s n⟩ := by
 unfold leafR
 rw [if_neg (by omega), if_neg (by omega)]
set_option maxRecDepth 100000 in
set_option maxHeartbeats 16000000 in
theorem refleaf_any (s : Sg) (a : Option Addr) (ca : Nat) (n : Ng) (w : World) (hb : Cells w a s.b) (hk : MSgOk s) (hcap : s.b.length ≤ ca) (hn : n.n ≤ 4294967295) (hx : LfOk n) :
  Calls Tryz.prog 33 #[.agg (sgA s a ca), .agg n.cells.toArray] w fun e w' => e = .returned (.agg (rpA (leafR s n))) ∧ w.grownBy w' none := by
 have HB1 := box_sg14 s a ca
 have HB2 := box_ng n
 have HV0 : Hid _ := blk3 w (sgA s a ca) n.cells.toArray #[.int .u32 0, .bool false, .bool false, .int .i64 0] 48 52 46
 have HSS := sg_size s a ca
 have HNS := ng_size n
 have HWD : Hid (∀ W, Calls Tryz.prog 44 #[.agg (sgA s a ca), .int .i64 n.of] W fun e w' => e = .returned (.bool (wordR s.v n.of)) ∧ W.grownBy w' none) := fun W => refword_any s a ca n.of W
 have HAD : Hid (∀ W bits, w.grownBy W none → (n.of = 2 ∨ n.of = 3) → 0 ≤ bits → bits ≤ 8 * (longM n.of : Int) → maskV bits.toNat (addrG n) = addrG n → Calls Tryz.prog 45 #[.agg (sgA s a ca), .agg n.cells.toArray, .int .i64 bits] W fun e w' => e = .returned (.int .i64 (withinM s n bits)) ∧ W.grownBy w' none) := fun W bits K h1 h2 h3 h4 => refaddr_any s a ca n bits W (hb.keptNone K) hk hcap h1 h2 h3 h4
 have HPO : Hid (∀ W, w.grownBy W none → (n.of = 0 ∨ n.of = 4 ∨ n.of = 5) → Calls Tryz.prog 47 #[.agg (sgA s a ca), .agg n.cells.toArray] W fun e w' => e = .returned (.int .i64 (portsM s n)) ∧ W.grownBy w' none) := fun W K h => refports_any s a ca n W (hb.keptNone K) hk.len (by have := hk.load; have := hk.len; omega) h
 have HLN : Hid (∀ W, (n.of = 2 ∨ n.of = 3) → Calls Tryz.prog 46 #[.int .i64 n.of] W fun e w' => e = .returned (.int .i64 (longM n.of : Int)) ∧ w' = W) := fun W ho => by
  have := long12_any n.of W
  rw [show (if n.of = 3 then (16 : Int) else 4) = (longM n.of : Int) by unfold longM; rcases ho with e | e <;> rw [e] <;> rfl] at this
  exact this
 obtain ⟨SA, hSA⟩ : ∃ A, sgA s a ca = A := ⟨_, rfl⟩
 obtain ⟨NA, hNA⟩ : ∃ A, n.cells.toArray = A := ⟨_, rfl⟩
 have HNX : Hid (sgA s a ca = SA ∧ n.cells.toArray = NA) := ⟨hSA, hNA⟩
 rw [hSA, hNA] at HV0 HAD HPO
 rw [hSA] at HB1 HWD HSS
 rw [hNA] at HB2 HNS
 rw [hSA, hNA]
 have HX : Hid (LfOk n) := hx
 have hlen := hk.len
 clear hSA hNA hb hk hx hcap
 obtain ⟨R, hR⟩ : ∃ R, leafR s n = R := ⟨_, rfl⟩
 rw [hR]
 have HR : Hid (R = leafR s n) := hR.symm
 clear hR
 have HSZ : Hid (∀ q, (Tryz.prog.info? 46).map (·.size) = some (rpA q).size ∧ 4 = (rpA q).size ∧ (rpA q).all (·.oneCell') = true) := fun q => ⟨rp_size q, rfl, rp_all q⟩
 go_enter Tryz.func33, Tryz.ntmps33
 go_upto_region 1 with fail
 generalize ((w.alloc (.cells SA 48)).alloc (.cells NA 52)).alloc (.cells #[.int .u32 0, .bool false, .bool false, .int .i64 0] 46) = w1 at *
 obtain ⟨B, hB, HB⟩ : ∃ B, w.heap.size = B ∧ Hid (w.heap.size ≤ B + 2) := ⟨_, rfl, Nat.le_add_right _ _⟩
 rw [hB] at HV0 ⊢
 clear HB1 HB2 hB
 obtain ⟨v1, v2, v3, K1⟩ := HV0.out
 have HV : Hid (VAt w1 B 48 SA ∧ VAt w1 (B + 1) 52 NA ∧ VAt w1 (B + 2) 46 #[.int .u32 0, .bool false, .bool false, .int .i64 0] ∧ w.grownBy w1 none) := ⟨v1, v2, v3, K1⟩
 have HC : Hid ((∀ W, VAt W B 48 SA → W.cell? ⟨B, 0, none⟩ = some (.int .u32 (s.v.proto : Int)) ∧ W.cell? ⟨B, 7, none⟩ = some (.int .i64 (s.v.next : Int)) ∧ W.cell? ⟨B, 9, none⟩ = some (.int .i64 s.way) ∧ W.cell? ⟨B, 10, none⟩ = some (.slice a s.b.length ca)) ∧ (∀ W, VAt W (B + 1) 52 NA → W.cell? ⟨B + 1, 0, none⟩ = some (.int .i64 n.kind) ∧ W.cell? ⟨B + 1, 2, none⟩ = some (.int .u32 (n.n : Int)) ∧ W.cell? ⟨B + 1, 5, none⟩ = some (.int .i64 n.of) ∧ W.cell? ⟨B + 1, 6, none⟩ = some (.int .i64 n.side) ∧ W.cell? ⟨B + 1, 23, none⟩ = some (.int .i64 n.bits))) := by
  refine ⟨fun W h => ?_, fun W h => ?_⟩
  ·rw [← HNX.out.1] at h
   exact ⟨h.cell 0, h.cell 7, h.cell 9, h.cell 10⟩
  ·rw [← HNX.out.2] at h
   exact ⟨h.cell 0, h.cell 2, h.cell 5, h.cell 6, h.cell 23⟩
 clear HV0 HNX v1 v2 v3 K1
 obtain ⟨n0, n2, n5, n6, n23⟩ := HC.out.2 w1 HV.out.2.1
 obtain ⟨s0, s7, s9, s10⟩ := HC.out.1 w1 HV.out.1
 rcases HX.out.kind with hkd | hkd | hkd
 ·rw [hkd] at n0
  have HF : Hid (R = ⟨n.n, false, false, 0⟩) := by
   show R = _
   rw [HR.out]
   unfold leafR
   rw [if_pos hkd]
  clear HR hkd
  go_upto_region 3 with fail
  go_wp2_with (first
   | (refine wpList_bld rfl 46 _ rfl #[(0, .int .u32 (n.n : Int))] (by kernel_rfl) (.agg (rpA ⟨n.n, false, false, 0⟩)) (bld_rpv _) ?_)
   | (refine wpList_store_row rfl 46 (.tmp 4) (.tmp 11) rfl (B + 2) (rpA ⟨n.n, false, false, 0⟩) rfl rfl 46 _ HV.out.2.2.1 (HSZ.out _).1 (HSZ.out _).2.1 (HSZ.out _).2.2 ?_))
  refine bodyPost_ret (results_cell_row rfl _ _ (B + 2) _ (rpA ⟨n.n, false, false, 0⟩) (0, 0) _ rfl (HV.out.2.2.1.setRow _) Tryz.underlying46 rfl (HSZ.out _).1) rfl ?_
  exact ⟨by rw [HF.out], vgrown_setRow HV.out.2.2.2 _ _ (.inr HB.out)⟩
 ·rw [hkd] at n0
  have HF : Hid (R = ⟨s.b.length, false, false, 0⟩) := by
   show R = _
   rw [HR.out]
   unfold leafR
   rw [if_neg (by omega), if_pos hkd]
  clear HR hkd
  have hq : (s.b.length : Int) % 4294967296 = (s.b.length : Int) := by omega
  go_upto_region 5 with fail
  go_wp2_with (first
   | (refine wpList_bld rfl 46 _ rfl #[(0, .int .u32 (s.b.length : Int))] (by kernel_rfl) (.agg (rpA ⟨s.b.length, false, false, 0⟩)) (bld_rpv _) ?_)
   | (refine wpList_store_row rfl 46 (.tmp 4) (.tmp 18) rfl (B + 2) (rpA ⟨s.b.length, false, false, 0⟩) rfl rfl 46 _ HV.out.2.2.1 (HSZ.out _).1 (HSZ.out _).2.1 (HSZ.out _).2.2 ?_))
  refine bodyPost_ret (results_cell_row rfl _ _ (B + 2) _ (rpA ⟨s.b.length, false, false, 0⟩) (0, 0) _ rfl (HV.out.2.2.1.setRow _) Tryz.underlying46 rfl (HSZ.out _).1) rfl ?_
  exact ⟨by rw [HF.out], vgrown_setRow HV.out.2.2.2 _ _ (.inr HB.out)⟩
 have hk7 : n.kind = 10 ∨ n.kind = 11 ∨ n.kind = 12 ∨ n.kind = 13 ∨ n.kind = 14 ∨ n.kind = 15 ∨ n.kind = 16 := by omega
 have HF : Hid (R = ⟨0, false, false, truthM s n⟩) := by
  show R = _
  rw [HR.out, leafR_t hkd.1]
 clear HR hkd
 rcases hk7 with hkd | hkd | hkd | hkd | hkd | hkd | hkd
 ·rw [hkd] at n0
  have ht : truthM s n = jdg (s.way == n.side - 1) := by
   unfold truthM
   rw [if_pos hkd]
   congr 1
   unfold wayM
   rcases HX.out.side hkd with e | e <;> rw [e] <;> rfl
  rw [ht] at HF
  have hwr : IntKind.i64.wrap (n.side - 1) = n.side - 1 := by
   rcases HX.out.side hkd with e | e <;> rw [e] <;> rfl
  clear ht hkd
  go_upto_region 7 with fail
  go_wp2_with fail
  refine (refjdg_any (s.way == n.side - 1) _).mono ?_
  rintro e wj ⟨rfl, hwj⟩
  subst hwj
  generalize jdg (s.way == n.side - 1) = z at *
  go_wp2_with (first
   | (refine wpList_bld rfl 46 _ rfl #[(3, .int .i64 z)] (by kernel_rfl) (.agg (rpA ⟨0, false, false, z⟩)) (bld_rps _) ?_)
   | (refine wpList_store_row rfl 46 (.tmp 4) (.tmp 28) rfl (B + 2) (rpA ⟨0, false, false, z⟩) rfl rfl 46 _ HV.out.2.2.1 (HSZ.out _).1 (HSZ.out _).2.1 (HSZ.out _).2.2 ?_))
  refine bodyPost_ret (results_cell_row rfl _ _ (B + 2) _ (rpA ⟨0, false, false, z⟩) (0, 0) _ rfl (HV.out.2.2.1.setRow _) Tryz.underlying46 rfl (HSZ.out _).1) rfl ?_
  exact ⟨by rw [HF.out], vgrown_setRow HV.out.2.2.2 _ _ (.inr HB.out)⟩
 ·rw [hkd] at n0
  have ht : truthM s n = jdg (wordR s.v n.of) := by
   unfold truthM
   rw [if_neg (by omega), if_pos hkd, wordR_eq s.v (by have := HX.out.of11 hkd; omega) (by have := HX.out.of11 hkd; omega)]
  rw [ht] at HF
  clear ht
  go_upto_region 9 with fail
  go_wp2_with (refine wpList_load_row rfl 48 (.tmp 2) rfl B rfl 48 SA (0, 0) _ HV.out.1 Tryz.underlying48 rfl HSS ?_)
  refine (HWD.out w1).mono ?_
  rintro e w2 ⟨rfl, K2⟩
  have HV2 : Hid (VAt w2 B 48 SA ∧ VAt w2 (B + 1) 52 NA ∧ VAt w2 (B + 2) 46 #[.int .u32 0, .bool false, .bool false, .int .i64 0] ∧ w.grownBy w2 none) := ⟨HV.out.1.kept K2, HV.out.2.1.kept K2, HV.out.2.2.1.kept K2, grown_trans HV.out.2.2.2 K2⟩
  clear HV K2 n0 n2 n5 n6 n23 s0 s7 s9 s10 hkd
  generalize wordR s.v n.of = xw at *
  go_wp2_with fail
  refine (refjdg_any xw _).mono ?_
  rintro e wj ⟨rfl, hwj⟩
  subst hwj
  generalize jdg xw = z at *
  go_wp2_with (first
   | (refine wpList_bld rfl 46 _ rfl #[(3, .int .i64 z)] (by kernel_rfl) (.agg (rpA ⟨0, false, false, z⟩)) (bld_rps _) ?_)
   | (refine wpList_store_row rfl 46 (.tmp 4) (.tmp 36) rfl (B + 2) (rpA ⟨0, false, false, z⟩) rfl rfl 46 _ HV2.out.2.2.1 (HSZ.out _).1 (HSZ.out _).2.1 (HSZ.out _).2.2 ?_))
  refine bodyPost_ret (results_cell_row rfl _ _ (B + 2) _ (rpA ⟨0, false, false, z⟩) (0, 0) _ rfl (HV2.out.2.2.1.setRow _) Tryz.underlying46 rfl (HSZ.out _).1) rfl ?_
  exact ⟨by rw [HF.out], vgrown_setRow HV2.out.2.2.2 _ _ (.inr HB.out)⟩
 ·rw [hkd] at n0
  have ht : truthM s n = jdg ((s.v.proto : Int) == (n.n : Int)) := by
   unfold truthM
   rw [if_neg (by omega), if_neg (by omega), if_pos hkd, nat_beq]
  rw [ht] at HF
  clear ht hkd
  go_upto_region 11 with fail
  go_wp2_with fail
  refine (refjdg_any ((s.v.proto : Int) == (n.n : Int)) _).mono ?_
  rintro e wj ⟨rfl, hwj⟩
  subst hwj
  generalize jdg ((s.v.proto : Int) == (n.n : Int)) = z at *
  go_wp2_with (first
   | (refine wpList_bld rfl 46 _ rfl #[(3, .int .i64 z)] (by kernel_rfl) (.agg (rpA ⟨0, false, false, z⟩)) (bld_rps _) ?_)
   | (refine wpList_store_row rfl 46 (.tmp 4) (.tmp 46) rfl (B + 2) (rpA ⟨0, false, false, z⟩) rfl rfl 46 _ HV.out.2.2.1 (HSZ.out _).1 (HSZ.out _).2.1 (HSZ.out _).2.2 ?_))
  refine bodyPost_ret (results_cell_row rfl _ _ (B + 2) _ (rpA ⟨0, false, false, z⟩) (0, 0) _ rfl (HV.out.2.2.1.setRow _) Tryz.underlying46 rfl (HSZ.out _).1) rfl ?_
  exact ⟨by rw [HF.out], vgrown_setRow HV.out.2.2.2 _ _ (.inr HB.out)⟩
 ·rw [hkd] at n0
  have ht : truthM s n = jdg (wordR s.v n.of && ((s.v.next : Int) == (n.n : Int))) := by
   unfold truthM
   rw [if_neg (by omega), if_neg (by omega), if_neg (by omega), if_pos hkd, wordR_eq s.v (by have := HX.out.of13 hkd; omega) (by have := HX.out.of13 hkd; omega)]
   rw [nat_beq]
  rw [ht] at HF
  clear ht
  go_upto_region 13 with fail
  go_wp2_with (refine wpList_load_row rfl 48 (.tmp 2) rfl B rfl 48 SA (0, 0) _ HV.out.1 Tryz.underlying48 rfl HSS ?_)
  refine (HWD.out w1).mono ?_
  rintro e w2 ⟨rfl, K2⟩
  have HV2 : Hid (VAt w2 B 48 SA ∧ VAt w2 (B + 1) 52 NA ∧ VAt w2 (B + 2) 46 #[.int .u32 0, .bool false, .bool false, .int .i64 0] ∧ w.grownBy w2 none) := ⟨HV.out.1.kept K2, HV.out.2.1.kept K2, HV.out.2.2.1.kept K2, grown_trans HV.out.2.2.2 K2⟩
  clear HV K2 n0 n2 n5 n6 n23 s0 s7 s9 s10 hkd
  obtain ⟨-, n2, -⟩ := HC.out.2 w2 HV2.out.2.1
  obtain ⟨-, s7, -⟩ := HC.out.1 w2 HV2.out.1
  generalize wordR s.v n.of = xw at *
  cases xw with
  | true =>
   have HF2 : Hid (R = ⟨0, false, false, jdg (((s.v.next : Int) == (n.n : Int)))⟩) := HF.out
   clear HF
   go_wp2_with fail
   refine (refjdg_any (((s.v.next : Int) == (n.n : Int))) _).mono ?_
   rintro e wj ⟨rfl, hwj⟩
   subst hwj
   generalize jdg (((s.v.next : Int) == (n.n : Int))) = z at *
   go_wp2_with (first
    | (refine wpList_bld rfl 46 _ rfl #[(3, .int .i64 z)] (by kernel_rfl) (.agg (rpA ⟨0, false, false, z⟩)) (bld_rps _) ?_)
    | (refine wpList_store_row rfl 46 (.tmp 4) (.tmp 63) rfl (B + 2) (rpA ⟨0, false, false, z⟩) rfl rfl 46 _ HV2.out.2.2.1 (HSZ.out _).1 (HSZ.out _).2.1 (HSZ.out _).2.2 ?_))
   refine bodyPost_ret (results_cell_row rfl _ _ (B + 2) _ (rpA ⟨0, false, false, z⟩) (0, 0) _ rfl (HV2.out.2.2.1.setRow _) Tryz.underlying46 rfl (HSZ.out _).1) rfl ?_
   exact ⟨by rw [HF2.out], vgrown_setRow HV2.out.2.2.2 _ _ (.inr HB.out)⟩
  | false =>
   have HF2 : Hid (R = ⟨0, false, false, jdg (false)⟩) := HF.out
   clear HF
   go_wp2_with fail
   refine (refjdg_any (false) _).mono ?_
   rintro e wj ⟨rfl, hwj⟩
   subst hwj
   generalize jdg (false) = z at *
   go_wp2_with (first
    | (refine wpList_bld rfl 46 _ rfl #[(3, .int .i64 z)] (by kernel_rfl) (.agg (rpA ⟨0, false, false, z⟩)) (bld_rps _) ?_)
    | (refine wpList_store_row rfl 46 (.tmp 4) (.tmp 63) rfl (B + 2) (rpA ⟨0, false, false, z⟩) rfl rfl 46 _ HV2.out.2.2.1 (HSZ.out _).1 (HSZ.out _).2.1 (HSZ.out _).2.2 ?_))
   refine bodyPost_ret (results_cell_row rfl _ _ (B + 2) _ (rpA ⟨0, false, false, z⟩) (0, 0) _ rfl (HV2.out.2.2.1.setRow _) Tryz.underlying46 rfl (HSZ.out _).1) rfl ?_
   exact ⟨by rw [HF2.out], vgrown_setRow HV2.out.2.2.2 _ _ (.inr HB.out)⟩
 ·rw [hkd] at n0
  have ho := HX.out.ofs (.inl hkd)
  have ht : truthM s n = withinM s n (8 * (longM n.of : Int)) := by
   unfold truthM
   rw [if_neg (by omega), if_neg (by omega), if_neg (by omega), if_neg (by omega), if_pos hkd]
  rw [ht] at HF
  clear ht hkd
  have hal : (addrG n).length = longM n.of := by
   unfold addrG longM
   rcases ho with e | e <;> rw [e] <;> rfl
  have HA2 : Hid (∀ W, w.grownBy W none → Calls Tryz.prog 45 #[.agg SA, .agg NA, .int .i64 (8 * (longM n.of : Int))] W fun e w' => e = .returned (.int .i64 (withinM s n (8 * (longM n.of : Int)))) ∧ W.grownBy w' none) := fun W K => HAD.out W _ K ho (by omega) (by omega) (mask_all _ _ (by rw [hal]; omega))
  have HL2 : Hid (∀ W, Calls Tryz.prog 46 #[.int .i64 n.of] W fun e w' => e = .returned (.int .i64 (longM n.of : Int)) ∧ w' = W) := fun W => HLN.out W ho
  have hlb : longM n.of ≤ 16 := by
   unfold longM
   rcases ho with e | e <;> rw [e] <;> simp
  have hwr : IntKind.i64.wrap (8 * (longM n.of : Int)) = 8 * (longM n.of : Int) := by rw [IntKind.wrap_i64]; omega
  clear ho hal HAD HLN
  generalize longM n.of = L at *
  generalize withinM s n (8 * (L : Int)) = z at *
  have HBZ := bld_rps z
  go_upto_region 15 with fail
  clear n0 n2 n5 n6 n23 s0 s7 s9 s10
  have HV3 : Hid (S14 w w1.drew B SA NA) := by
   have K5 := grown_drewN w1 1 none
   exact S14.kept ⟨HV.out.1, HV.out.2.1, ⟨_, HV.out.2.2.1, rfl⟩, HV.out.2.2.2⟩ K5
  clear HV
  refine wp_region_held_drew (S := fun W => S14 w W B SA NA) (by kernel_rfl) (HV3.out) (fun hHeld => ?_)
  refine wpT (i := 0) (v := .agg (SA)) rfl (yieldsIf_load_row (by rfl) _ _ rfl B rfl 48 (SA) _ (fun W hW => hW.s) Tryz.underlying48 rfl HSS) hHeld ?_
  try simp only [Act.put, a0, a1, a3, a4, a5]
  refine wpT (i := 1) (v := .agg (NA)) rfl (yieldsIf_load_row (by rfl) _ _ rfl (B + 1) rfl 52 (NA) _ (fun W hW => hW.n) Tryz.underlying52 rfl HNS) hHeld ?_
  try simp only [Act.put, a0, a1, a2, a3, a4, a5]
  refine wpT (i := 2) (v := .pointer (some ⟨B + 1, 5, none⟩)) rfl (Or.inl ⟨by rfl, fun W hW => ?_⟩) hHeld ?_
  ·clear hW
   go_simp
  try simp only [Act.put, a0, a1, a2, a3, a4, a5]
  refine wpT (i := 3) (v := .int .i64 n.of) rfl (Or.inl ⟨by rfl, fun W hW => ?_⟩) hHeld ?_
  ·have c5 := (HC.out.2 W hW.n).2.2.1
   clear hW
   go_simp
  try simp only [Act.put, a0, a1, a2, a3, a4, a5]
  refine wpR (rs := [4]) (AllReadyH.cons rfl (fun K hK => ?_) AllReadyH.nil)
  go_simp
  refine (HL2.out _).mono ?_
  rintro e wo ⟨rfl, hwo⟩
  subst hwo
  go_wp2_with fail
  refine hK.out _ _ hHeld (fun hHeld => ?_)
  clear hK K
  try simp only [Act.put, a0, a1, a2, a3, a4, a5]
  refine wpT (i := 5) (v := .int .i64 (8 * (L : Int))) rfl (Or.inl ⟨by rfl, fun W hW => ?_⟩) hHeld ?_
  ·clear hW
   go_simp
  try simp only [Act.put, a0, a1, a2, a3, a4, a5]
  refine wpR (rs := [6]) (AllReadyH.cons rfl (fun K hK => ?_) AllReadyH.nil)
  go_simp
  refine (HA2.out _ hHeld.up).mono ?_
  rintro e w2 ⟨rfl, K2⟩
  go_wp2_with fail
  refine hK.out _ _ (hHeld.kept K2) (fun hHeld => ?_)
  clear hK K
  try simp only [Act.put, a0, a1, a2, a3, a4, a5]
  refine wpT (i := 7) (v := .agg (rpA ⟨0, false, false, z⟩)) rfl (yieldsIf_bld14 (by rfl) 46 _ (by rfl) #[(3, .int .i64 z)] (by kernel_rfl) (.agg (rpA ⟨0, false, false, z⟩)) HBZ) hHeld ?_
  try simp only [Act.put, a0, a1, a2, a3, a4, a5]
  refine wpR (rs := [8]) (AllReadyH.cons rfl (fun K hK => ?_) AllReadyH.nil)
  obtain ⟨RA, vRA, hRA⟩ := hHeld.r
  refine step_store_rowM rfl 46 (.tmp 4) (.tmp 73) rfl (B + 2) (rpA ⟨0, false, false, z⟩) rfl rfl 46 RA vRA (HSZ.out _).1 (hRA.trans (HSZ.out _).2.1) (HSZ.out _).2.2 ?_
  obtain ⟨p1, p2, p3⟩ := hHeld.put ⟨0, false, false, z⟩ HB.out
  refine hK.out _ _ p1 (fun _ => ?_)
  clear hK K
  try simp only [Act.put]
  refine wpAnyH_done (by kernel_rfl) ?_ _
  go_wp2_with fail
  refine bodyPost_ret (results_cell_row rfl _ _ (B + 2) _ (rpA ⟨0, false, false, z⟩) (0, 0) _ rfl p2 Tryz.underlying46 rfl (HSZ.out _).1) rfl ?_
  exact ⟨by rw [HF.out], p3⟩
 ·rw [hkd] at n0
  have ho := HX.out.ofs (.inr hkd)
  obtain ⟨⟨hb0, hb1⟩, hbm⟩ := HX.out.bits hkd
  have ht : truthM s n = withinM s n n.bits := by
   unfold truthM
   rw [if_neg (by omega), if_neg (by omega), if_neg (by omega), if_neg (by omega), if_neg (by omega), if_pos hkd]
  rw [ht] at HF
  clear ht hkd
  have CA := HAD.out w1 n.bits HV.out.2.2.2 ho hb0 hb1 hbm
  clear ho hb0 hb1 hbm HAD HLN
  generalize withinM s n n.bits = z at *
  go_upto_region 17 with fail
  go_wp2_with (first | (refine wpList_load_row rfl 48 (.tmp 2) rfl B rfl 48 SA (0, 0) _ HV.out.1 Tryz.underlying48 rfl HSS ?_) | (refine wpList_load_row rfl 52 (.tmp 3) rfl (B + 1) rfl 52 NA (0, 0) _ HV.out.2.1 Tryz.underlying52 rfl HNS ?_))
  refine CA.mono ?_
  rintro e w2 ⟨rfl, K2⟩
  have HV2 : Hid (VAt w2 B 48 SA ∧ VAt w2 (B + 1) 52 NA ∧ VAt w2 (B + 2) 46 #[.int .u32 0, .bool false, .bool false, .int .i64 0] ∧ w.grownBy w2 none) := ⟨HV.out.1.kept K2, HV.out.2.1.kept K2, HV.out.2.2.1.kept K2, grown_trans HV.out.2.2.2 K2⟩
  clear HV K2 CA n0 n2 n5 n6 n23 s0 s7 s9 s10
  go_wp2_with (first
   | (refine wpList_bld rfl 46 _ rfl #[(3, .int .i64 z)] (by kernel_rfl) (.agg (rpA ⟨0, false, false, z⟩)) (bld_rps _) ?_)
   | (refine wpList_store_row rfl 46 (.tmp 4) (.tmp 81) rfl (B + 2) (rpA ⟨0, false, false, z⟩) rfl rfl 46 _ HV2.out.2.2.1 (HSZ.out _).1 (HSZ.out _).2.1 (HSZ.out _).2.2 ?_))
  refine bodyPost_ret (results_cell_row rfl _ _ (B + 2) _ (rpA ⟨0, false, false, z⟩) (0, 0) _ rfl (HV2.out.2.2.1.setRow _) Tryz.underlying46 rfl (HSZ.out _).1) rfl ?_
  exact ⟨by rw [HF.out], vgrown_setRow HV2.out.2.2.2 _ _ (.inr HB.out)⟩
 ·rw [hkd] at n0
  have ho := HX.out.of16 hkd
  have ht : truthM s n = portsM s n := by
   unfold truthM
   rw [if_neg (by omega), if_neg (by omega), if_neg (by omega), if_neg (by omega), if_neg (by omega), if_neg (by omega)]
  rw [ht] at HF
  clear ht hkd
  have CA := HPO.out w1 HV.out.2.2.2 ho
  clear ho HAD HLN HPO
  generalize portsM s n = z at *
  go_upto_region 18 with fail
  go_wp2_with (first | (refine wpList_load_row rfl 48 (.tmp 2) rfl B rfl 48 SA (0, 0) _ HV.out.1 Tryz.underlying48 rfl HSS ?_) | (refine wpList_load_row rfl 52 (.tmp 3) rfl (B + 1) rfl 52 NA (0, 0) _ HV.out.2.1 Tryz.underlying52 rfl HNS ?_))
  refine CA.mono ?_
  rintro e w2 ⟨rfl, K2⟩
  have HV2 : Hid (VAt w2 B 48 SA ∧ VAt w2 (B + 1) 52 NA ∧ VAt w2 (B + 2) 46 #[.int .u32 0, .bool false, .bool false, .int .i64 0] ∧ w.grownBy w2 none) := ⟨HV.out.1.kept K2, HV.out.2.1.kept K2, HV.out.2.2.1.kept K2, grown_trans HV.out.2.2.2 K2⟩
  clear HV K2 CA n0 n2 n5 n6 n23 s0 s7 s9 s10
  go_wp2_with (first
   | (refine wpList_bld rfl 46 _ rfl #[(3, .int .i64 z)] (by kernel_rfl) (.agg (rpA ⟨0, false, false, z⟩)) (bld_rps _) ?_)
   | (refine wpList_store_row rfl 46 (.tmp 4) (.tmp 85) rfl (B + 2) (rpA ⟨0, false, false, z⟩) rfl rfl 46 _ HV2.out.2.2.1 (HSZ.out _).1 (HSZ.out _).2.1 (HSZ.out _).2.2 ?_))
  refine bodyPost_ret (results_cell_row rfl _ _ (B + 2) _ (rpA ⟨0, false, false, z⟩) (0, 0) _ rfl (HV2.out.2.2.1.setRow _) Tryz.underlying46 rfl (HSZ.out _).1) rfl ?_
  exact ⟨by rw [HF.out], vgrown_setRow HV2.out.2.2.2 _ _ (.inr HB.out)⟩
end Go.Proofs.YtcodofamdhcfiaaGreat
