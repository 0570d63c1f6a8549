import Derived.Test.YtklipelnjgpnjaaGreatDoorAb
import Derived.Test.YtklipelnjgpnjaaGreatDoorLotP30
import Derived.Deep.DeepCutAuto
import Derived.Deep.CutBlock
namespace Go.Proofs.YtklipelnjgpnjaaGreatDoor
open Go.RowKit
set_option maxRecDepth 100000
set_option maxRecDepth 100000 in
set_option maxHeartbeats 16000000 in
theorem node_5 (x : Ng) (ps : List Pt) (ao : Option Addr) (cap : Nat) (w : World) (C : CV w ao (flat3 pqC ps)) (ha : arG x.kind = some ps.length) (hn : x.n ≤ 4294967295) (hv : ∀ p ∈ ps, p.val ≤ 4294967295) (hcc : x.kind = 5) :
  Calls Tryz.prog 126 #[.agg x.cells.toArray, .slice ao ps.length cap] w fun e w' => nodeR x ps e ∧ w.grownBy w' none := by
 have HC : Hid (CV w ao (flat3 pqC ps)) := C
 have HAR : Hid (arG x.kind = some ps.length) := ha
 have HV : Hid (∀ p ∈ ps, p.val ≤ 4294967295) := hv
 have HXN : Hid (x.n ≤ 4294967295) := hn
 have hl2 := arG_le ha
 have CA := arity12_any x.kind
 have hai : arI x.kind = (ps.length : Int) := by unfold arI; rw [ha]
 rw [hai] at CA
 have HCF : Hid (∀ W : World, Calls Tryz.prog 155 #[.agg x.cells.toArray] W fun e w' => e = .returned (.bool (formG x)) ∧ W.grownBy w' none) := fun W => by
  have := form12_any x W
  rw [hai, decide_eq_true (by omega), Bool.true_and] at this
  exact this
 have HCW : Hid (∀ W : World, _) := wants12_any x.kind
 have HCT : Hid (∀ W : World, _) := truth12_any x.kind
 have HCR : Hid (formG x = true → ∀ W : World, Calls Tryz.prog 159 #[.agg x.cells.toArray] W fun e w' => e = .returned (.int .i64 (rangeE x)) ∧ W.grownBy w' none) := fun hf W => ranges12_any x W (fun h15 => by
  unfold formG mayG at hf
  rw [h15] at hf
  have h2 := (Bool.and_eq_true_iff.1 hf).2
  have h3 : hostG x = true := h2
  unfold hostG at h3
  have h4 := (Bool.and_eq_true_iff.1 (Bool.and_eq_true_iff.1 h3).1).1
  unfold inG at h4
  have h5 := Bool.and_eq_true_iff.1 h4
  have := of_decide_eq_true h5.1
  have := of_decide_eq_true h5.2
  omega)
 have HBX := box_ng x
 have h1 := NW.alloc w x
 have HZ : Hid ((Tryz.prog.info? 43).map (·.size) = some x.cells.toArray.size) := ng_size x
 obtain ⟨X, hX⟩ : ∃ X, x.cells.toArray = X := ⟨_, rfl⟩
 rw [hX] at HBX ⊢
 clear C ha hv hn hai
 go_enter Tryz.func126, Tryz.ntmps126
 go_upto_region 1 with fail
 rw [← hX] at HBX
 rw [show #[.bool false, .bool false, .int .u32 0] = (pqC pt0).toArray from rfl, ← hX]
 generalize (w.alloc (.cells x.cells.toArray 43)).alloc (.cells (pqC pt0).toArray 112) = w1 at *
 rw [hX]
 generalize w.heap.size = B at *
 have c0 := h1.nb.kind
 have HNB : Hid (VAt w1 B 43 X) := hX ▸ h1.nb
 have HN1 : Hid (NW w w1 B x) := h1
 rw [hX] at HCF HCR HZ
 obtain ⟨kk, hkk⟩ : ∃ kk, x.kind = kk := ⟨_, rfl⟩
 have HK : Hid (x.kind = kk) := hkk
 rw [hkk] at c0 CA HCW HCT
 have HXX : Hid (x.cells.toArray = X) := hX
 have hne : ((ps.length : Int) != (ps.length : Int)) = false := by simp
 have HPZ : Hid ((Tryz.prog.info? 112).map (·.size) = some (pqC pt0).toArray.size ∧ (pqC pt0).toArray.size = (pqC pt0).toArray.size ∧ (pqC pt0).toArray.all (·.oneCell') = true) := ⟨pq_size _, rfl, pq_all _⟩
 obtain ⟨Z0, hZ0⟩ : ∃ Z0, (pqC pt0).toArray = Z0 := ⟨_, rfl⟩
 clear HBX hX h1 hkk
 go_wp2_with fail
 refine (CA _).mono ?_
 rintro e w2 ⟨rfl, rfl⟩
 clear CA
 go_wp2_with (refine wpList_load_rowG rfl 43 (.tmp 2) rfl B rfl 43 X (0, 0) _ HNB.out Tryz.underlying43 rfl HZ.out ?_)
 refine (HCF.out _).mono ?_
 rintro e w3 ⟨rfl, K3⟩
 have HN3 : Hid (NW w w3 B x) := HN1.out.kept K3
 clear HN1 HNB HCF hne K3 c0
 cases hfm : formG x with
 | false =>
  have HFE : Hid (faultG x ps = 120) := by unfold Hid faultG; rw [hfm]; rfl
  clear hfm
  have r0 : w3.cell? ⟨B + 1, 0, none⟩ = some (.bool false) := HN3.out.res.cell 0
  have r1 : w3.cell? ⟨B + 1, 1, none⟩ = some (.bool false) := HN3.out.res.cell 1
  have r2 : w3.cell? ⟨B + 1, 2, none⟩ = some (.int .u32 0) := HN3.out.res.cell 2
  have f0 := HN3.out.res.free 0
  have f1 := HN3.out.res.free 1
  have f2 := HN3.out.res.free 2
  obtain ⟨VP, GP⟩ := HN3.out.put pt0
  have HVP : Hid (VAt _ _ _ _ ∧ w.grownBy _ none) := ⟨VP, GP⟩
  clear VP GP
  go_wp2
  refine bodyPost_ret (ret_rowT rfl _ _ (B + 1) (pqC pt0).toArray _ rfl HVP.out.1 Tryz.underlying112 rfl HPZ.out.1) rfl ?_
  exact ⟨⟨pt0, by rw [HFE.out]; rfl, fun h => by rw [HFE.out] at h; cases h⟩, HVP.out.2⟩
 | true =>
  have HFT : Hid (formG x = true) := hfm
  have HCR2 : Hid (∀ W : World, Calls Tryz.prog 159 #[.agg X] W fun e w' => e = .returned (.int .i64 (rangeE x)) ∧ W.grownBy w' none) := HCR.out hfm
  obtain ⟨wt, hwt⟩ : ∃ wt, wantsG kk = wt := ⟨_, rfl⟩
  rw [hwt] at HCW
  have HWT : Hid (wantsG x.kind = wt) := by unfold Hid; rw [HK.out]; exact hwt
  have k0 := HN3.out.nb.kind
  rw [HK.out] at k0
  clear hfm HCR hwt
  go_wp2
  go_loopw [6] (fun i wr => ∃ k : Nat, k ≤ ps.length ∧ i = .int .i64 k ∧ Hid (∀ j (_ : j < ps.length), j < k → ps[j].truth = wt) ∧ wr = w3) (fun i _ => ps.length - (intOf i).toNat)
  case atStart => exact ⟨0, Nat.zero_le _, rfl, fun j _ h => absurd h (Nat.not_lt_zero j), rfl⟩
  case round =>
   obtain ⟨k, hk, rfl, H1, rfl⟩ := hrel
   by_cases hlt : k < ps.length
   ·obtain ⟨b, off, rfl, hc⟩ := CV.pts pqC_len (HC.out.keptNone HN3.out.up) hlt
    have e0 := hc k hlt 0 (.bool ps[k].truth) rfl
    rw [Nat.add_zero] at e0
    have hl : (k : Int) < (ps.length : Int) := by omega
    have z0 : (0 : Int) ≤ (k : Int) := by omega
    have w3' : IntKind.i64.wrap ((k : Int) + 1) = (k : Int) + 1 := by rw [IntKind.wrap_i64]; omega
    have HNX : Hid (ps[k].truth = wt → ∀ j (_ : j < ps.length), j < k + 1 → ps[j].truth = wt) := fun h j h1 h2 => by
     by_cases e : j = k
     ·subst e; exact h
     ·exact H1.out j h1 (by omega)
    have HFK : Hid (ps[k].truth ≠ wt → faultG x ps = if wt = true then 121 else 122) := fun h => fault_kind HFT.out HWT.out hlt h
    obtain ⟨pt, hpt⟩ : ∃ pt, ps[k].truth = pt := ⟨_, rfl⟩
    rw [hpt] at e0 HNX HFK
    clear hc hpt H1 HCR2 HCT HXN HV HAR
    cases pt with
    | true =>
     cases wt with
     | true =>
      have HN4 := HNX.out rfl
      clear HNX HFK
      go_wp2_with fail
      refine (HCW.out _).mono ?_
      rintro e w4 ⟨rfl, rfl⟩
      go_wp2
      go_roundw
      case rel => exact ⟨k + 1, by omega, by go_num, HN4, trivial⟩
      case measure => simp [intOf]; omega
     | false =>
      have HFE : Hid (faultG x ps = 122) := HFK.out (by simp)
      clear HNX HFK
      go_wp2_with fail
      refine (HCW.out _).mono ?_
      rintro e w4 ⟨rfl, rfl⟩
      have r0 : w4.cell? ⟨B + 1, 0, none⟩ = some (.bool false) := HN3.out.res.cell 0
      have r1 : w4.cell? ⟨B + 1, 1, none⟩ = some (.bool false) := HN3.out.res.cell 1
      have r2 : w4.cell? ⟨B + 1, 2, none⟩ = some (.int .u32 0) := HN3.out.res.cell 2
      have f0 := HN3.out.res.free 0
      have f1 := HN3.out.res.free 1
      have f2 := HN3.out.res.free 2
      obtain ⟨VP, GP⟩ := HN3.out.put pt0
      have HVP : Hid (VAt _ _ _ _ ∧ w.grownBy _ none) := ⟨VP, GP⟩
      clear VP GP
      go_wp2
      refine bodyPost_ret (ret_rowT rfl _ _ (B + 1) (pqC pt0).toArray _ rfl HVP.out.1 Tryz.underlying112 rfl HPZ.out.1) rfl ?_
      exact ⟨⟨pt0, by rw [HFE.out]; rfl, fun h => by rw [HFE.out] at h; cases h⟩, HVP.out.2⟩
    | false =>
     cases wt with
     | true =>
      have HFE : Hid (faultG x ps = 121) := HFK.out (by simp)
      clear HNX HFK
      go_wp2_with fail
      refine (HCW.out _).mono ?_
      rintro e w4 ⟨rfl, rfl⟩
      have r0 : w4.cell? ⟨B + 1, 0, none⟩ = some (.bool false) := HN3.out.res.cell 0
      have r1 : w4.cell? ⟨B + 1, 1, none⟩ = some (.bool false) := HN3.out.res.cell 1
      have r2 : w4.cell? ⟨B + 1, 2, none⟩ = some (.int .u32 0) := HN3.out.res.cell 2
      have f0 := HN3.out.res.free 0
      have f1 := HN3.out.res.free 1
      have f2 := HN3.out.res.free 2
      obtain ⟨VP, GP⟩ := HN3.out.put pt0
      have HVP : Hid (VAt _ _ _ _ ∧ w.grownBy _ none) := ⟨VP, GP⟩
      clear VP GP
      go_wp2
      refine bodyPost_ret (ret_rowT rfl _ _ (B + 1) (pqC pt0).toArray _ rfl HVP.out.1 Tryz.underlying112 rfl HPZ.out.1) rfl ?_
      exact ⟨⟨pt0, by rw [HFE.out]; rfl, fun h => by rw [HFE.out] at h; cases h⟩, HVP.out.2⟩
     | false =>
      have HN4 := HNX.out rfl
      clear HNX HFK
      go_wp2_with fail
      refine (HCW.out _).mono ?_
      rintro e w4 ⟨rfl, rfl⟩
      go_wp2
      go_roundw
      case rel => exact ⟨k + 1, by omega, by go_num, HN4, trivial⟩
      case measure => simp [intOf]; omega
   ·obtain rfl : k = ps.length := by omega
    have hl' : ¬ (ps.length : Int) < (ps.length : Int) := by omega
    have HFR : Hid (faultG x ps = if zeroE x ps = true then 123 else rangeE x) := fault_rest HFT.out HWT.out (fun j h => H1.out j h h)
    clear H1
    go_wp2_with fail
    refine (HCT.out _).mono ?_
    rintro e w4 ⟨rfl, rfl⟩
    obtain ⟨tt, htt⟩ : ∃ tt, truthG kk = tt := ⟨_, rfl⟩
    have HTT : Hid (truthG x.kind = tt) := by unfold Hid; rw [HK.out]; exact htt
    rw [htt]
    have A0 := VAt.alloc w4 112 #[.bool false, .bool false, .int .u32 0]
    have a0 : (w4.alloc (.cells #[.bool false, .bool false, .int .u32 0] 112)).cell? ⟨w4.heap.size, 0, none⟩ = some (.bool false) := A0.cell 0
    have a1 : (w4.alloc (.cells #[.bool false, .bool false, .int .u32 0] 112)).cell? ⟨w4.heap.size, 1, none⟩ = some (.bool false) := A0.cell 1
    have a2 : (w4.alloc (.cells #[.bool false, .bool false, .int .u32 0] 112)).cell? ⟨w4.heap.size, 2, none⟩ = some (.int .u32 0) := A0.cell 2
    have f0 := A0.free 0
    have f1 := A0.free 1
    have f2 := A0.free 2
    have HNO := NO.make HN3.out tt
    clear A0 htt HCT HCW hl'
    go_upto_region 11 with fail
    obtain ⟨O, hO⟩ : ∃ O, w4.heap.size = O := ⟨_, rfl⟩
    rw [hO] at HNO ⊢
    clear a0 a1 a2 f0 f1 f2 hO
    generalize w4.alloc (.cells #[.bool tt, .bool false, .int .u32 0] 112) = w5 at *
    have HN3 : Hid (NW w w5 B x) := HNO.nw
    have k0 := HNO.nw.nb.kind
    rw [HK.out] at k0
    have k1 := HNO.nw.nb.op
    have k2 := HNO.nw.nb.n
    have HO5 : Hid (NO w w5 B O x ⟨tt, false, 0⟩) := HNO
    have HCP : Hid (CV w5 ao (flat3 pqC ps)) := HC.out.keptNone HNO.nw.up
    clear HNO
    have hz : ¬ zeroE x ps = true := by unfold zeroE; rw [hcc]; simp
    have hk5 : kk = 5 := HK.out.symm.trans hcc
    have HFZ : Hid (faultG x ps = rangeE x) := by unfold Hid; rw [HFR.out, if_neg hz]
    have o1 : w5.cell? ⟨O, 1, none⟩ = some (.bool false) := HO5.out.out.cell 1
    have o2 : w5.cell? ⟨O, 2, none⟩ = some (.int .u32 0) := HO5.out.out.cell 2
    have g1 := HO5.out.out.free 1
    have g2 := HO5.out.out.free 2
    obtain ⟨RE, hRE⟩ : ∃ RE, rangeE x = RE := ⟨_, rfl⟩
    rw [hRE] at HFZ HCR2
    clear hRE HFR hk hlt
    have t1 : (kk == 1) = false := by rw [beq_eq_false_iff_ne]; omega
    have t5 : (kk == 5) = true := by simpa using hk5
    have hlen : ps.length = 1 := by
     have := HAR.out
     rw [HK.out, hk5] at this
     exact (Option.some.inj this).symm
    obtain ⟨p, rfl⟩ : ∃ p, ps = [p] := by
     match ps, hlen with
     | [p], _ => exact ⟨p, rfl⟩
    obtain ⟨b, off, rfl, hc⟩ := CV.pts pqC_len HCP.out (k := 0) (by simp)
    have e1 := hc 0 (by simp) 1 (.bool p.fixed) rfl
    have e2 := hc 0 (by simp) 2 (.int .u32 (p.val : Int)) rfl
    simp only [Nat.zero_mul, Nat.add_zero] at e1 e2
    have l0 : (0 : Int) < (([p] : List Pt).length : Int) := by simp
    have hpv := HV.out p (by simp)
    have HNG : Hid ((-(p.val : Int)) % 4294967296 = (minusG p.val : Int)) := by unfold Hid minusG; omega
    have HQJ0 : Hid (fixq ⟨tt, p.fixed, minusG p.val⟩ = joinG x [p]) := by
     unfold Hid
     rw [← HTT.out]
     unfold joinG valG fixq
     rw [HK.out, hk5]
     cases hf : p.fixed <;> simp [hf]
    clear hk5 hlen hc HCP HAR HV hz hl2
    cases hpf : p.fixed with
    | true =>
     rw [hpf] at e1 HQJ0
     have HQJ : Hid _ := HQJ0
     clear hpf HQJ0 e2
     go_upto_region 17 with fail
     have HO6 : NO w (w5.setCell ⟨O, 1, none⟩ (.bool true)) B O x ⟨tt, true, 0⟩ := HO5.out.set (r := ⟨tt, true, 0⟩) 1 (.bool true) rfl
     generalize w5.setCell ⟨O, 1, none⟩ (.bool true) = w6 at *
     have e2 := (part_cell HC.out HO6.nw.up (i := 0) (by simp)).2
     simp only [Nat.zero_mul, Nat.add_zero, List.getElem_cons_zero] at e2
     have o2 : w6.cell? ⟨O, 2, none⟩ = some (.int .u32 0) := HO6.out.cell 2
     have g2 := HO6.out.free 2
     have HO7 : Hid (NO w w6 B O x ⟨tt, true, 0⟩) := HO6
     clear HO6 o1 g1 e1
     go_upto_region 24 with fail
     have HQO : NO w (w6.setCell ⟨O, 2, none⟩ (.int .u32 ((-(p.val : Int)) % 4294967296))) B O x ⟨tt, true, minusG p.val⟩ := HO7.out.set (r := ⟨tt, true, minusG p.val⟩) 2 (.int .u32 ((-(p.val : Int)) % 4294967296)) (by rw [HNG.out]; rfl)
     generalize w6.setCell ⟨O, 2, none⟩ (.int .u32 ((-(p.val : Int)) % 4294967296)) = wc at *
     clear HO7 HNG
     have o1 : wc.cell? ⟨O, 1, none⟩ = some (.bool true) := HQO.out.cell 1
     clear HO5 HN3 k0 k1 k2
     obtain ⟨q, hq⟩ : ∃ q : Pt, ⟨tt, true, minusG p.val⟩ = q := ⟨_, rfl⟩
     have hqf : q.fixed = true := by rw [← hq]
     rw [hq] at HQO HQJ
     have HNF : NO w wc B O x (fixq q) := by unfold fixq; rw [hqf, if_pos rfl]; exact HQO
     clear HQO hqf hq
     generalize hW9 : wc = W9 at *
     clear hW9
     go_upto_region 26 with fail
     have HD : Hid (NO w W9.drew B O x (fixq q)) := HNF.kept (grown_drewN W9 1 none)
     have HYZ : Hid ((Tryz.prog.info? 112).map (·.size) = some (pqC (fixq q)).toArray.size ∧ 3 = (pqC (fixq q)).toArray.size ∧ (pqC (fixq q)).toArray.all (·.oneCell') = true) := ⟨pq_size _, rfl, pq_all _⟩
     obtain ⟨Y, hY⟩ : ∃ Y, (pqC (fixq q)).toArray = Y := ⟨_, rfl⟩
     have HYY : Hid ((pqC (fixq q)).toArray = Y) := hY
     have HS0 : Hid (VAt W9.drew O 112 Y ∧ VAt W9.drew B 43 X) := ⟨hY ▸ HD.out.out, HXX.out ▸ HD.out.nw.nb⟩
     have HZ3 : Hid (3 = Z0.size) := by unfold Hid; rw [← hZ0]; rfl
     have HZR : Hid (VAt W9.drew (B + 1) 112 Z0) := hZ0 ▸ HD.out.nw.res
     have HGD : Hid (w.grownBy W9.drew none ∧ w.heap.size ≤ B + 1 ∧ B + 1 < O) := ⟨HD.out.nw.up, by have := HD.out.nw.base; omega, HD.out.lo⟩
     rw [hY] at HYZ
     clear HNF HD hY
     refine wp_region_held_drew (S := fun W => VAt W O 112 Y ∧ VAt W B 43 X) (by kernel_rfl) HS0.out (fun hHeld => ?_)
     refine wpT (i := 0) (v := .agg Y) rfl (yieldsIf_load_row (by rfl) _ _ rfl O rfl 112 Y _ (fun W hW => hW.1) Tryz.underlying112 rfl HYZ.out.1) hHeld ?_
     try simp only [Act.put, a0, a1, a3, a4, a5]
     refine wpT (i := 1) (v := .agg X) rfl (yieldsIf_load_row (by rfl) _ _ rfl B rfl 43 X _ (fun W hW => hW.2) Tryz.underlying43 rfl HZ.out) hHeld ?_
     try simp only [Act.put, a0, a1, a2, a3, a4, a5]
     refine wpR (rs := [2]) (AllReadyH.cons rfl (fun K hK => ?_) AllReadyH.nil)
     go_simp
     refine (HCR2.out _).mono ?_
     rintro e w7 ⟨rfl, K7⟩
     go_wp2_with fail
     refine hK.out _ _ ⟨hHeld.1.kept K7, hHeld.2.kept K7⟩ (fun hHeld => ?_)
     have HV7 : Hid (VAt w7 (B + 1) 112 Z0) := HZR.out.kept K7
     have HG7 : Hid (w.grownBy w7 none) := grown_trans HGD.out.1 K7
     clear hK K K7 HZR
     try simp only [Act.put, a0, a1, a2, a3, a4, a5]
     refine wpR (rs := [3]) (AllReadyH.cons rfl (fun K hK => ?_) AllReadyH.nil)
     refine step_store_rowT rfl 112 (.tmp 4) (.tmp 131) rfl (B + 1) Y rfl rfl 112 Z0 HV7.out HYZ.out.1 (HZ3.out.symm.trans HYZ.out.2.1) HYZ.out.2.2 ?_
     have HV8 : Hid (VAt (w7.setRow (B + 1) Y) (B + 1) 112 Y ∧ w.grownBy (w7.setRow (B + 1) Y) none) := ⟨VAt.setRow HV7.out _, vgrown_setRow HG7.out (B + 1) _ (.inr HGD.out.2.1)⟩
     refine hK.out _ _ ⟨vat_setRow hHeld.1 (by have := HGD.out.2.2; omega), vat_setRow hHeld.2 (by omega)⟩ (fun hHeld => ?_)
     clear hK K HV7 HG7
     try simp only [Act.put, List.getElem_toArray, List.getElem_cons_zero, List.getElem_cons_succ]
     refine wpT (i := 4) (v := .int .i64 RE) rfl (Or.inl ⟨by rfl, fun W hW => ?_⟩) hHeld ?_
     ·clear hW
      go_simp
     try simp only [Act.put, a0, a1, a2, a3, a4, a5]
     refine wpAnyH_done (by kernel_rfl) ?_ _
     clear hHeld
     go_wp2
     refine bodyPost_ret (ret_rowT rfl _ _ (B + 1) Y _ rfl HV8.out.1 Tryz.underlying112 rfl HYZ.out.1) rfl ?_
     exact ⟨⟨fixq q, by rw [HFZ.out, HYY.out]; rfl, fun _ => HQJ.out⟩, HV8.out.2⟩
    | false =>
     rw [hpf] at e1 HQJ0
     have HQJ : Hid _ := HQJ0
     clear hpf HQJ0 e2
     go_upto_region 17 with fail
     have HO6 : NO w (w5.setCell ⟨O, 1, none⟩ (.bool false)) B O x ⟨tt, false, 0⟩ := HO5.out.set (r := ⟨tt, false, 0⟩) 1 (.bool false) rfl
     generalize w5.setCell ⟨O, 1, none⟩ (.bool false) = w6 at *
     have e2 := (part_cell HC.out HO6.nw.up (i := 0) (by simp)).2
     simp only [Nat.zero_mul, Nat.add_zero, List.getElem_cons_zero] at e2
     have o2 : w6.cell? ⟨O, 2, none⟩ = some (.int .u32 0) := HO6.out.cell 2
     have g2 := HO6.out.free 2
     have HO7 : Hid (NO w w6 B O x ⟨tt, false, 0⟩) := HO6
     clear HO6 o1 g1 e1
     go_upto_region 24 with fail
     have HQO : NO w (w6.setCell ⟨O, 2, none⟩ (.int .u32 ((-(p.val : Int)) % 4294967296))) B O x ⟨tt, false, minusG p.val⟩ := HO7.out.set (r := ⟨tt, false, minusG p.val⟩) 2 (.int .u32 ((-(p.val : Int)) % 4294967296)) (by rw [HNG.out]; rfl)
     generalize w6.setCell ⟨O, 2, none⟩ (.int .u32 ((-(p.val : Int)) % 4294967296)) = wc at *
     clear HO7 HNG
     have o1 : wc.cell? ⟨O, 1, none⟩ = some (.bool false) := HQO.out.cell 1
     clear HO5 HN3 k0 k1 k2
     obtain ⟨q, hq⟩ : ∃ q : Pt, ⟨tt, false, minusG p.val⟩ = q := ⟨_, rfl⟩
     have hqf : q.fixed = false := by rw [← hq]
     rw [hq] at HQO HQJ
     have o2 : wc.cell? ⟨O, 2, none⟩ = some (.int .u32 (q.val : Int)) := HQO.out.cell 2
     have g2 := HQO.out.free 2
     have HNF : NO w (wc.setCell ⟨O, 2, none⟩ (.int .u32 0)) B O x (fixq q) := by
      unfold fixq
      rw [hqf, if_neg (by simp)]
      exact HQO.set (r := ⟨q.truth, false, 0⟩) 2 (.int .u32 0) (by unfold pqC; rw [hqf]; rfl)
     go_upto_region 26 with fail
     clear HQO hqf o1 o2 g2 hq
     generalize wc.setCell ⟨O, 2, none⟩ (.int .u32 0) = W9 at *
     go_upto_region 26 with fail
     have HD : Hid (NO w W9.drew B O x (fixq q)) := HNF.kept (grown_drewN W9 1 none)
     have HYZ : Hid ((Tryz.prog.info? 112).map (·.size) = some (pqC (fixq q)).toArray.size ∧ 3 = (pqC (fixq q)).toArray.size ∧ (pqC (fixq q)).toArray.all (·.oneCell') = true) := ⟨pq_size _, rfl, pq_all _⟩
     obtain ⟨Y, hY⟩ : ∃ Y, (pqC (fixq q)).toArray = Y := ⟨_, rfl⟩
     have HYY : Hid ((pqC (fixq q)).toArray = Y) := hY
     have HS0 : Hid (VAt W9.drew O 112 Y ∧ VAt W9.drew B 43 X) := ⟨hY ▸ HD.out.out, HXX.out ▸ HD.out.nw.nb⟩
     have HZ3 : Hid (3 = Z0.size) := by unfold Hid; rw [← hZ0]; rfl
     have HZR : Hid (VAt W9.drew (B + 1) 112 Z0) := hZ0 ▸ HD.out.nw.res
     have HGD : Hid (w.grownBy W9.drew none ∧ w.heap.size ≤ B + 1 ∧ B + 1 < O) := ⟨HD.out.nw.up, by have := HD.out.nw.base; omega, HD.out.lo⟩
     rw [hY] at HYZ
     clear HNF HD hY
     refine wp_region_held_drew (S := fun W => VAt W O 112 Y ∧ VAt W B 43 X) (by kernel_rfl) HS0.out (fun hHeld => ?_)
     refine wpT (i := 0) (v := .agg Y) rfl (yieldsIf_load_row (by rfl) _ _ rfl O rfl 112 Y _ (fun W hW => hW.1) Tryz.underlying112 rfl HYZ.out.1) hHeld ?_
     try simp only [Act.put, a0, a1, a3, a4, a5]
     refine wpT (i := 1) (v := .agg X) rfl (yieldsIf_load_row (by rfl) _ _ rfl B rfl 43 X _ (fun W hW => hW.2) Tryz.underlying43 rfl HZ.out) hHeld ?_
     try simp only [Act.put, a0, a1, a2, a3, a4, a5]
     refine wpR (rs := [2]) (AllReadyH.cons rfl (fun K hK => ?_) AllReadyH.nil)
     go_simp
     refine (HCR2.out _).mono ?_
     rintro e w7 ⟨rfl, K7⟩
     go_wp2_with fail
     refine hK.out _ _ ⟨hHeld.1.kept K7, hHeld.2.kept K7⟩ (fun hHeld => ?_)
     have HV7 : Hid (VAt w7 (B + 1) 112 Z0) := HZR.out.kept K7
     have HG7 : Hid (w.grownBy w7 none) := grown_trans HGD.out.1 K7
     clear hK K K7 HZR
     try simp only [Act.put, a0, a1, a2, a3, a4, a5]
     refine wpR (rs := [3]) (AllReadyH.cons rfl (fun K hK => ?_) AllReadyH.nil)
     refine step_store_rowT rfl 112 (.tmp 4) (.tmp 131) rfl (B + 1) Y rfl rfl 112 Z0 HV7.out HYZ.out.1 (HZ3.out.symm.trans HYZ.out.2.1) HYZ.out.2.2 ?_
     have HV8 : Hid (VAt (w7.setRow (B + 1) Y) (B + 1) 112 Y ∧ w.grownBy (w7.setRow (B + 1) Y) none) := ⟨VAt.setRow HV7.out _, vgrown_setRow HG7.out (B + 1) _ (.inr HGD.out.2.1)⟩
     refine hK.out _ _ ⟨vat_setRow hHeld.1 (by have := HGD.out.2.2; omega), vat_setRow hHeld.2 (by omega)⟩ (fun hHeld => ?_)
     clear hK K HV7 HG7
     try simp only [Act.put, List.getElem_toArray, List.getElem_cons_zero, List.getElem_cons_succ]
     refine wpT (i := 4) (v := .int .i64 RE) rfl (Or.inl ⟨by rfl, fun W hW => ?_⟩) hHeld ?_
     ·clear hW
      go_simp
     try simp only [Act.put, a0, a1, a2, a3, a4, a5]
     refine wpAnyH_done (by kernel_rfl) ?_ _
     clear hHeld
     go_wp2
     refine bodyPost_ret (ret_rowT rfl _ _ (B + 1) Y _ rfl HV8.out.1 Tryz.underlying112 rfl HYZ.out.1) rfl ?_
     exact ⟨⟨fixq q, by rw [HFZ.out, HYY.out]; rfl, fun _ => HQJ.out⟩, HV8.out.2⟩

end Go.Proofs.YtklipelnjgpnjaaGreatDoor
