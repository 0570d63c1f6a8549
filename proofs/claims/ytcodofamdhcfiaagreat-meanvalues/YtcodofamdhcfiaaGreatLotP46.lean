import Derived.Test.YtcodofamdhcfiaaGreatAb
import Derived.Test.YtcodofamdhcfiaaGreatLotP38
import Derived.Deep.DeepCutAuto
import Derived.Deep.CutBlock
import Derived.Test.YtcodofamdhcfiaaGreatLotP41
import Derived.Test.YtcodofamdhcfiaaGreatTyBf4
import Derived.Test.YtcodofamdhcfiaaGreatTyBf5
import Derived.Test.YtcodofamdhcfiaaGreatTyBf6
import Derived.Test.YtcodofamdhcfiaaGreatTyBf7
import Derived.Test.YtcodofamdhcfiaaGreatTyBk
import Derived.Test.YtcodofamdhcfiaaGreatLotP32
import Derived.Test.YtcodofamdhcfiaaGreatLotP21
import Derived.Test.YtcodofamdhcfiaaGreatRmK
import Derived.Test.YtcodofamdhcfiaaGreatLotP26
import Derived.Test.YtcodofamdhcfiaaGreatLotP28
namespace Go.Proofs.YtcodofamdhcfiaaGreat
open Go.RowKit
set_option maxRecDepth 100000
set_option maxRecDepth 100000 in
set_option maxHeartbeats 16000000 in
theorem node_o (x : Ng) (ps : List Pt) (ao : Option Addr) (cap : Nat) (w : World) (C : CV w ao (flat3 pqC ps)) (ha : arG x.kind = some ps.length) (hn : x.n ≤ 4294967295) (hv : ∀ p ∈ ps, p.val ≤ 4294967295) (hcc : ¬ (x.kind = 1 ∨ x.kind = 4 ∨ x.kind = 5)) :
  Calls Tryz.prog 124 #[.agg x.cells.toArray, .slice ao ps.length cap] w fun e w' => nodeR x ps e ∧ w.grownBy w' none := by
 have HC : Hid (CV w ao (flat3 pqC ps)) := C
 have HAR : Hid (arG x.kind = some ps.length) := ha
 have HV : Hid (∀ p ∈ ps, p.val ≤ 4294967295) := hv
 have HXN : Hid (x.n ≤ 4294967295) := hn
 have hl2 := arG_le ha
 have CA := arity12_any x.kind
 have hai : arI x.kind = (ps.length : Int) := by unfold arI; rw [ha]
 rw [hai] at CA
 have HCF : Hid (∀ W : World, Calls Tryz.prog 152 #[.agg x.cells.toArray] W fun e w' => e = .returned (.bool (formG x)) ∧ W.grownBy w' none) := fun W => by
  have := form12_any x W
  rw [hai, decide_eq_true (by omega), Bool.true_and] at this
  exact this
 have HCW : Hid (∀ W : World, _) := wants12_any x.kind
 have HCT : Hid (∀ W : World, _) := truth12_any x.kind
 have HCR : Hid (formG x = true → ∀ W : World, Calls Tryz.prog 155 #[.agg x.cells.toArray] W fun e w' => e = .returned (.int .i64 (rangeE x)) ∧ W.grownBy w' none) := fun hf W => ranges12_any x W (fun h15 => by
  unfold formG mayG at hf
  rw [h15] at hf
  have h2 := (Bool.and_eq_true_iff.1 hf).2
  have h3 : hostG x = true := h2
  unfold hostG at h3
  have h4 := (Bool.and_eq_true_iff.1 (Bool.and_eq_true_iff.1 h3).1).1
  unfold inG at h4
  have h5 := Bool.and_eq_true_iff.1 h4
  have := of_decide_eq_true h5.1
  have := of_decide_eq_true h5.2
  omega)
 have HBX := box_ng x
 have h1 := NW.alloc w x
 have HZ : Hid ((Tryz.prog.info? 52).map (·.size) = some x.cells.toArray.size) := ng_size x
 obtain ⟨X, hX⟩ : ∃ X, x.cells.toArray = X := ⟨_, rfl⟩
 rw [hX] at HBX ⊢
 clear C ha hv hn hai
 go_enter Tryz.func124, Tryz.ntmps124
 go_upto_region 1 with fail
 rw [← hX] at HBX
 rw [show #[.bool false, .bool false, .int .u32 0] = (pqC pt0).toArray from rfl, ← hX]
 generalize (w.alloc (.cells x.cells.toArray 52)).alloc (.cells (pqC pt0).toArray 112) = w1 at *
 rw [hX]
 generalize w.heap.size = B at *
 have c0 := h1.nb.kind
 have HNB : Hid (VAt w1 B 52 X) := hX ▸ h1.nb
 have HN1 : Hid (NW w w1 B x) := h1
 rw [hX] at HCF HCR HZ
 obtain ⟨kk, hkk⟩ : ∃ kk, x.kind = kk := ⟨_, rfl⟩
 have HK : Hid (x.kind = kk) := hkk
 rw [hkk] at c0 CA HCW HCT
 have HXX : Hid (x.cells.toArray = X) := hX
 have hne : ((ps.length : Int) != (ps.length : Int)) = false := by simp
 have HPZ : Hid ((Tryz.prog.info? 112).map (·.size) = some (pqC pt0).toArray.size ∧ (pqC pt0).toArray.size = (pqC pt0).toArray.size ∧ (pqC pt0).toArray.all (·.oneCell') = true) := ⟨pq_size _, rfl, pq_all _⟩
 obtain ⟨Z0, hZ0⟩ : ∃ Z0, (pqC pt0).toArray = Z0 := ⟨_, rfl⟩
 clear HBX hX h1 hkk
 go_wp2_with fail
 refine (CA _).mono ?_
 rintro e w2 ⟨rfl, rfl⟩
 clear CA
 go_wp2_with (refine wpList_load_rowG rfl 52 (.tmp 2) rfl B rfl 52 X (0, 0) _ HNB.out Tryz.underlying52 rfl HZ.out ?_)
 refine (HCF.out _).mono ?_
 rintro e w3 ⟨rfl, K3⟩
 have HN3 : Hid (NW w w3 B x) := HN1.out.kept K3
 clear HN1 HNB HCF hne K3 c0
 cases hfm : formG x with
 | false =>
  have HFE : Hid (faultG x ps = 120) := by unfold Hid faultG; rw [hfm]; rfl
  clear hfm
  have r0 : w3.cell? ⟨B + 1, 0, none⟩ = some (.bool false) := HN3.out.res.cell 0
  have r1 : w3.cell? ⟨B + 1, 1, none⟩ = some (.bool false) := HN3.out.res.cell 1
  have r2 : w3.cell? ⟨B + 1, 2, none⟩ = some (.int .u32 0) := HN3.out.res.cell 2
  have f0 := HN3.out.res.free 0
  have f1 := HN3.out.res.free 1
  have f2 := HN3.out.res.free 2
  obtain ⟨VP, GP⟩ := HN3.out.put pt0
  have HVP : Hid (VAt _ _ _ _ ∧ w.grownBy _ none) := ⟨VP, GP⟩
  clear VP GP
  go_wp2
  refine bodyPost_ret (ret_rowT rfl _ _ (B + 1) (pqC pt0).toArray _ rfl HVP.out.1 Tryz.underlying112 rfl HPZ.out.1) rfl ?_
  exact ⟨⟨pt0, by rw [HFE.out]; rfl, fun h => by rw [HFE.out] at h; cases h⟩, HVP.out.2⟩
 | true =>
  have HFT : Hid (formG x = true) := hfm
  have HCR2 : Hid (∀ W : World, Calls Tryz.prog 155 #[.agg X] W fun e w' => e = .returned (.int .i64 (rangeE x)) ∧ W.grownBy w' none) := HCR.out hfm
  obtain ⟨wt, hwt⟩ : ∃ wt, wantsG kk = wt := ⟨_, rfl⟩
  rw [hwt] at HCW
  have HWT : Hid (wantsG x.kind = wt) := by unfold Hid; rw [HK.out]; exact hwt
  have k0 := HN3.out.nb.kind
  rw [HK.out] at k0
  clear hfm HCR hwt
  go_wp2
  go_loopw [6] (fun i wr => ∃ k : Nat, k ≤ ps.length ∧ i = .int .i64 k ∧ Hid (∀ j (_ : j < ps.length), j < k → ps[j].truth = wt) ∧ wr = w3) (fun i _ => ps.length - (intOf i).toNat)
  case atStart => exact ⟨0, Nat.zero_le _, rfl, fun j _ h => absurd h (Nat.not_lt_zero j), rfl⟩
  case round =>
   obtain ⟨k, hk, rfl, H1, rfl⟩ := hrel
   by_cases hlt : k < ps.length
   ·obtain ⟨b, off, rfl, hc⟩ := CV.pts pqC_len (HC.out.keptNone HN3.out.up) hlt
    have e0 := hc k hlt 0 (.bool ps[k].truth) rfl
    rw [Nat.add_zero] at e0
    have hl : (k : Int) < (ps.length : Int) := by omega
    have z0 : (0 : Int) ≤ (k : Int) := by omega
    have w3' : IntKind.i64.wrap ((k : Int) + 1) = (k : Int) + 1 := by rw [IntKind.wrap_i64]; omega
    have HNX : Hid (ps[k].truth = wt → ∀ j (_ : j < ps.length), j < k + 1 → ps[j].truth = wt) := fun h j h1 h2 => by
     by_cases e : j = k
     ·subst e; exact h
     ·exact H1.out j h1 (by omega)
    have HFK : Hid (ps[k].truth ≠ wt → faultG x ps = if wt = true then 121 else 122) := fun h => fault_kind HFT.out HWT.out hlt h
    obtain ⟨pt, hpt⟩ : ∃ pt, ps[k].truth = pt := ⟨_, rfl⟩
    rw [hpt] at e0 HNX HFK
    clear hc hpt H1 HCR2 HCT HXN HV HAR
    cases pt with
    | true =>
     cases wt with
     | true =>
      have HN4 := HNX.out rfl
      clear HNX HFK
      go_wp2_with fail
      refine (HCW.out _).mono ?_
      rintro e w4 ⟨rfl, rfl⟩
      go_wp2
      go_roundw
      case rel => exact ⟨k + 1, by omega, by go_num, HN4, trivial⟩
      case measure => simp [intOf]; omega
     | false =>
      have HFE : Hid (faultG x ps = 122) := HFK.out (by simp)
      clear HNX HFK
      go_wp2_with fail
      refine (HCW.out _).mono ?_
      rintro e w4 ⟨rfl, rfl⟩
      have r0 : w4.cell? ⟨B + 1, 0, none⟩ = some (.bool false) := HN3.out.res.cell 0
      have r1 : w4.cell? ⟨B + 1, 1, none⟩ = some (.bool false) := HN3.out.res.cell 1
      have r2 : w4.cell? ⟨B + 1, 2, none⟩ = some (.int .u32 0) := HN3.out.res.cell 2
      have f0 := HN3.out.res.free 0
      have f1 := HN3.out.res.free 1
      have f2 := HN3.out.res.free 2
      obtain ⟨VP, GP⟩ := HN3.out.put pt0
      have HVP : Hid (VAt _ _ _ _ ∧ w.grownBy _ none) := ⟨VP, GP⟩
      clear VP GP
      go_wp2
      refine bodyPost_ret (ret_rowT rfl _ _ (B + 1) (pqC pt0).toArray _ rfl HVP.out.1 Tryz.underlying112 rfl HPZ.out.1) rfl ?_
      exact ⟨⟨pt0, by rw [HFE.out]; rfl, fun h => by rw [HFE.out] at h; cases h⟩, HVP.out.2⟩
    | false =>
     cases wt with
     | true =>
      have HFE : Hid (faultG x ps = 121) := HFK.out (by simp)
      clear HNX HFK
      go_wp2_with fail
      refine (HCW.out _).mono ?_
      rintro e w4 ⟨rfl, rfl⟩
      have r0 : w4.cell? ⟨B + 1, 0, none⟩ = some (.bool false) := HN3.out.res.cell 0
      have r1 : w4.cell? ⟨B + 1, 1, none⟩ = some (.bool false) := HN3.out.res.cell 1
      have r2 : w4.cell? ⟨B + 1, 2, none⟩ = some (.int .u32 0) := HN3.out.res.cell 2
      have f0 := HN3.out.res.free 0
      have f1 := HN3.out.res.free 1
      have f2 := HN3.out.res.free 2
      obtain ⟨VP, GP⟩ := HN3.out.put pt0
      have HVP : Hid (VAt _ _ _ _ ∧ w.grownBy _ none) := ⟨VP, GP⟩
      clear VP GP
      go_wp2
      refine bodyPost_ret (ret_rowT rfl _ _ (B + 1) (pqC pt0).toArray _ rfl HVP.out.1 Tryz.underlying112 rfl HPZ.out.1) rfl ?_
      exact ⟨⟨pt0, by rw [HFE.out]; rfl, fun h => by rw [HFE.out] at h; cases h⟩, HVP.out.2⟩
     | false =>
      have HN4 := HNX.out rfl
      clear HNX HFK
      go_wp2_with fail
      refine (HCW.out _).mono ?_
      rintro e w4 ⟨rfl, rfl⟩
      go_wp2
      go_roundw
      case rel => exact ⟨k + 1, by omega, by go_num, HN4, trivial⟩
      case measure => simp [intOf]; omega
   ·obtain rfl : k = ps.length := by omega
    have hl' : ¬ (ps.length : Int) < (ps.length : Int) := by omega
    have HFR : Hid (faultG x ps = if zeroE x ps = true then 123 else rangeE x) := fault_rest HFT.out HWT.out (fun j h => H1.out j h h)
    clear H1
    go_wp2_with fail
    refine (HCT.out _).mono ?_
    rintro e w4 ⟨rfl, rfl⟩
    obtain ⟨tt, htt⟩ : ∃ tt, truthG kk = tt := ⟨_, rfl⟩
    have HTT : Hid (truthG x.kind = tt) := by unfold Hid; rw [HK.out]; exact htt
    rw [htt]
    have A0 := VAt.alloc w4 112 #[.bool false, .bool false, .int .u32 0]
    have a0 : (w4.alloc (.cells #[.bool false, .bool false, .int .u32 0] 112)).cell? ⟨w4.heap.size, 0, none⟩ = some (.bool false) := A0.cell 0
    have a1 : (w4.alloc (.cells #[.bool false, .bool false, .int .u32 0] 112)).cell? ⟨w4.heap.size, 1, none⟩ = some (.bool false) := A0.cell 1
    have a2 : (w4.alloc (.cells #[.bool false, .bool false, .int .u32 0] 112)).cell? ⟨w4.heap.size, 2, none⟩ = some (.int .u32 0) := A0.cell 2
    have f0 := A0.free 0
    have f1 := A0.free 1
    have f2 := A0.free 2
    have HNO := NO.make HN3.out tt
    clear A0 htt HCT HCW hl'
    go_upto_region 11 with fail
    obtain ⟨O, hO⟩ : ∃ O, w4.heap.size = O := ⟨_, rfl⟩
    rw [hO] at HNO ⊢
    clear a0 a1 a2 f0 f1 f2 hO
    generalize w4.alloc (.cells #[.bool tt, .bool false, .int .u32 0] 112) = w5 at *
    have HN3 : Hid (NW w w5 B x) := HNO.nw
    have k0 := HNO.nw.nb.kind
    rw [HK.out] at k0
    have k1 := HNO.nw.nb.op
    have k2 := HNO.nw.nb.n
    have HO5 : Hid (NO w w5 B O x ⟨tt, false, 0⟩) := HNO
    have HCP : Hid (CV w5 ao (flat3 pqC ps)) := HC.out.keptNone HNO.nw.up
    clear HNO
    have hz : ¬ zeroE x ps = true := by unfold zeroE; rw [decide_eq_false (fun h => hcc (.inr (.inl h)))]; simp
    have hno : ¬ (kk = 1 ∨ kk = 4 ∨ kk = 5) := by rw [← HK.out]; exact hcc
    clear hcc
    have HFZ : Hid (faultG x ps = rangeE x) := by unfold Hid; rw [HFR.out, if_neg hz]
    have o1 : w5.cell? ⟨O, 1, none⟩ = some (.bool false) := HO5.out.out.cell 1
    have o2 : w5.cell? ⟨O, 2, none⟩ = some (.int .u32 0) := HO5.out.out.cell 2
    have g1 := HO5.out.out.free 1
    have g2 := HO5.out.out.free 2
    obtain ⟨RE, hRE⟩ : ∃ RE, rangeE x = RE := ⟨_, rfl⟩
    rw [hRE] at HFZ HCR2
    clear hRE HFR hk hlt
    have t1 : (kk == 1) = false := by rw [beq_eq_false_iff_ne]; omega
    have t5 : (kk == 5) = false := by rw [beq_eq_false_iff_ne]; omega
    have t4 : (kk == 4) = false := by rw [beq_eq_false_iff_ne]; omega
    have HQJ : Hid (fixq ⟨tt, false, 0⟩ = joinG x ps) := by
     have hvg : valG x ps = none := by
      unfold valG
      rw [HK.out, if_neg (by omega), if_neg (by omega), if_neg (by omega)]
     unfold Hid joinG
     rw [hvg, HTT.out]
     split <;> rfl
    clear hno HCP HAR HV hz hl2
    go_upto_region 24 with fail
    have HQO : NO w w5 B O x ⟨tt, false, 0⟩ := HO5.out
    generalize hwc : w5 = wc at *
    clear hwc
    have o1 : wc.cell? ⟨O, 1, none⟩ = some (.bool false) := HQO.out.cell 1
    clear HO5 HN3 k0 k1 k2
    obtain ⟨q, hq⟩ : ∃ q : Pt, ⟨tt, false, 0⟩ = q := ⟨_, rfl⟩
    have hqf : q.fixed = false := by rw [← hq]
    rw [hq] at HQO HQJ
    have o2 : wc.cell? ⟨O, 2, none⟩ = some (.int .u32 (q.val : Int)) := HQO.out.cell 2
    have g2 := HQO.out.free 2
    have HNF : NO w (wc.setCell ⟨O, 2, none⟩ (.int .u32 0)) B O x (fixq q) := by
     unfold fixq
     rw [hqf, if_neg (by simp)]
     exact HQO.set (r := ⟨q.truth, false, 0⟩) 2 (.int .u32 0) (by unfold pqC; rw [hqf]; rfl)
    go_upto_region 26 with fail
    clear HQO hqf o1 o2 g2 hq
    generalize wc.setCell ⟨O, 2, none⟩ (.int .u32 0) = W9 at *
    go_upto_region 26 with fail
    have HD : Hid (NO w W9.drew B O x (fixq q)) := HNF.kept (grown_drewN W9 1 none)
    have HYZ : Hid ((Tryz.prog.info? 112).map (·.size) = some (pqC (fixq q)).toArray.size ∧ 3 = (pqC (fixq q)).toArray.size ∧ (pqC (fixq q)).toArray.all (·.oneCell') = true) := ⟨pq_size _, rfl, pq_all _⟩
    obtain ⟨Y, hY⟩ : ∃ Y, (pqC (fixq q)).toArray = Y := ⟨_, rfl⟩
    have HYY : Hid ((pqC (fixq q)).toArray = Y) := hY
    have HS0 : Hid (VAt W9.drew O 112 Y ∧ VAt W9.drew B 52 X) := ⟨hY ▸ HD.out.out, HXX.out ▸ HD.out.nw.nb⟩
    have HZ3 : Hid (3 = Z0.size) := by unfold Hid; rw [← hZ0]; rfl
    have HZR : Hid (VAt W9.drew (B + 1) 112 Z0) := hZ0 ▸ HD.out.nw.res
    have HGD : Hid (w.grownBy W9.drew none ∧ w.heap.size ≤ B + 1 ∧ B + 1 < O) := ⟨HD.out.nw.up, by have := HD.out.nw.base; omega, HD.out.lo⟩
    rw [hY] at HYZ
    clear HNF HD hY
    refine wp_region_held_drew (S := fun W => VAt W O 112 Y ∧ VAt W B 52 X) (by kernel_rfl) HS0.out (fun hHeld => ?_)
    refine wpT (i := 0) (v := .agg Y) rfl (yieldsIf_load_row (by rfl) _ _ rfl O rfl 112 Y _ (fun W hW => hW.1) Tryz.underlying112 rfl HYZ.out.1) hHeld ?_
    try simp only [Act.put, a0, a1, a3, a4, a5]
    refine wpT (i := 1) (v := .agg X) rfl (yieldsIf_load_row (by rfl) _ _ rfl B rfl 52 X _ (fun W hW => hW.2) Tryz.underlying52 rfl HZ.out) hHeld ?_
    try simp only [Act.put, a0, a1, a2, a3, a4, a5]
    refine wpR (rs := [2]) (AllReadyH.cons rfl (fun K hK => ?_) AllReadyH.nil)
    go_simp
    refine (HCR2.out _).mono ?_
    rintro e w7 ⟨rfl, K7⟩
    go_wp2_with fail
    refine hK.out _ _ ⟨hHeld.1.kept K7, hHeld.2.kept K7⟩ (fun hHeld => ?_)
    have HV7 : Hid (VAt w7 (B + 1) 112 Z0) := HZR.out.kept K7
    have HG7 : Hid (w.grownBy w7 none) := grown_trans HGD.out.1 K7
    clear hK K K7 HZR
    try simp only [Act.put, a0, a1, a2, a3, a4, a5]
    refine wpR (rs := [3]) (AllReadyH.cons rfl (fun K hK => ?_) AllReadyH.nil)
    refine step_store_rowT rfl 112 (.tmp 4) (.tmp 131) rfl (B + 1) Y rfl rfl 112 Z0 HV7.out HYZ.out.1 (HZ3.out.symm.trans HYZ.out.2.1) HYZ.out.2.2 ?_
    have HV8 : Hid (VAt (w7.setRow (B + 1) Y) (B + 1) 112 Y ∧ w.grownBy (w7.setRow (B + 1) Y) none) := ⟨VAt.setRow HV7.out _, vgrown_setRow HG7.out (B + 1) _ (.inr HGD.out.2.1)⟩
    refine hK.out _ _ ⟨vat_setRow hHeld.1 (by have := HGD.out.2.2; omega), vat_setRow hHeld.2 (by omega)⟩ (fun hHeld => ?_)
    clear hK K HV7 HG7
    try simp only [Act.put, List.getElem_toArray, List.getElem_cons_zero, List.getElem_cons_succ]
    refine wpT (i := 4) (v := .int .i64 RE) rfl (Or.inl ⟨by rfl, fun W hW => ?_⟩) hHeld ?_
    ·clear hW
     go_simp
    try simp only [Act.put, a0, a1, a2, a3, a4, a5]
    refine wpAnyH_done (by kernel_rfl) ?_ _
    clear hHeld
    go_wp2
    refine bodyPost_ret (ret_rowT rfl _ _ (B + 1) Y _ rfl HV8.out.1 Tryz.underlying112 rfl HYZ.out.1) rfl ?_
    exact ⟨⟨fixq q, by rw [HFZ.out, HYY.out]; rfl, fun _ => HQJ.out⟩, HV8.out.2⟩
theorem node12_any (x : Ng) (ps : List Pt) (ao : Option Addr) (cap : Nat) (w : World) (C : CV w ao (flat3 pqC ps)) (ha : arG x.kind = some ps.length) (hn : x.n ≤ 4294967295) (hv : ∀ p ∈ ps, p.val ≤ 4294967295) :
  Calls Tryz.prog 124 #[.agg x.cells.toArray, .slice ao ps.length cap] w fun e w' => nodeR x ps e ∧ w.grownBy w' none := by
 by_cases hz : zeroE x ps = true
 ·exact node_z x ps ao cap w C ha hn hv hz
 ·have h : x.kind = 1 ∨ x.kind = 5 ∨ (x.kind = 4 ∧ x.op = 4) ∨ (x.kind = 4 ∧ x.op = 5) ∨ (x.kind = 4 ∧ x.op ≠ 4 ∧ x.op ≠ 5) ∨ ¬ (x.kind = 1 ∨ x.kind = 4 ∨ x.kind = 5) := by omega
  rcases h with h | h | h | h | h | h
  ·exact node_1 x ps ao cap w C ha hn hv h
  ·exact node_5 x ps ao cap w C ha hn hv h
  ·exact node_4a x ps ao cap w C ha hn hv hz h
  ·exact node_4b x ps ao cap w C ha hn hv hz h
  ·exact node_4c x ps ao cap w C ha hn hv hz h
  ·exact node_o x ps ao cap w C ha hn hv h
set_option maxHeartbeats 8000000 in
theorem refcheck_any (ao : Option Addr) (cap : Nat) (t : List Ng) (w : World) (C : CV w ao (flatG t)) (hm : t.length * 72 ≤ 140737488355328) (hn : ∀ x ∈ t, x.n ≤ 4294967295) :
  Calls Tryz.prog 40 #[.slice ao t.length cap] w fun e w' => e = .returned (checkR t) ∧ w.grownBy w' none := by
 have HC : Hid (CV w ao (flatG t)) := C
 obtain ⟨E, hE⟩ : ∃ E, checkR t = E := ⟨_, rfl⟩
 rw [hE]
 have HE : Hid (checkR t = E) := hE
 have CW := refwalk_any node12_any ao cap t w C hm hn
 clear C hE hn
 go_enter Tryz.func40, Tryz.ntmps40
 go_wp2_with fail
 refine CW.mono ?_
 rintro e w2 ⟨v, hR, O, K2⟩
 clear CW
 cases hwk : walkG [] 0 t with
 | error er =>
  obtain ⟨k, er⟩ := er
  rw [hwk] at hR
  simp only [walkR] at hR
  subst hR
  have h3 := walkG_er t [] 0 hwk
  have e1 : (er != 0) = true := by rw [bne_iff_ne]; omega
  have HF : Hid (E = .tuple #[.int .i64 (k : Int), .int .i64 er]) := by
   show E = _
   rw [← HE.out, checkR, checkG, hwk]
  clear O hwk h3
  go_wp2
  go_ret2
  exact ⟨by rw [HF.out]; rfl, K2⟩
 | ok st =>
  rw [hwk] at hR O
  simp only [walkR] at hR
  subst hR
  obtain ⟨aL, cL, rfl, CL, -⟩ := cv_of_row O
  have HG : Hid (w.grownBy w2 none) := K2
  have HCK : Hid (checkG t = if st.length ≠ 1 then (t.length, (120 : Int)) else if (st.getD 0 pt0).truth = false then (t.length - 1, 121) else match heavyG 0 0 t with | some k => (k, (126 : Int)) | none => (0, 0)) := by
   show _ = _
   rw [checkG, hwk]
   rfl
  have hlen := walkG_len t [] st 0 hwk
  simp only [walkL, List.length_nil, Nat.zero_add] at hlen CL ⊢
  by_cases h1 : st.length = 1
  ·match st, h1 with
   | [p], _ =>
    obtain ⟨b, o, rfl, hc⟩ := CL.pts pqC_len (k := 0) (by simp)
    have c0 := hc 0 (by simp) 0 (.bool p.truth) rfl
    simp only [Nat.zero_mul, Nat.add_zero] at c0
    have hl1 : 1 ≤ t.length := by simpa using hlen
    rw [show [p].length = 1 from rfl]
    clear CL hc O hlen hwk
    cases hp : p.truth with
    | false =>
     rw [hp] at c0
     have HF : Hid (E = .tuple #[.int .i64 ((t.length - 1 : Nat) : Int), .int .i64 121]) := by
      show E = _
      rw [← HE.out, checkR, HCK.out]
      simp [hp]
     have q : ((t.length - 1 : Nat) : Int) = (t.length : Int) - 1 := by omega
     have w3 : IntKind.i64.wrap ((t.length : Int) - 1) = (t.length : Int) - 1 := by rw [IntKind.wrap_i64]; omega
     rw [q] at HF
     clear q HCK hp
     go_wp2
     go_ret2
     exact ⟨by rw [HF.out]; rfl, HG.out⟩
    | true =>
     rw [hp] at c0
     have HF : Hid (checkG t = match heavyG 0 0 t with | some k => (k, (126 : Int)) | none => (0, 0)) := by
      show _ = _
      rw [HCK.out]
      simp [hp]
     clear HCK hp K2
     go_wp2
     clear c0 hl1
     go_loopw [7, 8] (fun s i wr => ∃ k S : Nat, k ≤ t.length ∧ S ≤ 3000 ∧ s = .int .i64 (S : Int) ∧ i = .int .i64 k ∧ Hid (heavyG S k (t.drop k) = heavyG 0 0 t ∧ w.grownBy wr none)) (fun _ i _ => t.length - (intOf i).toNat)
     case atStart => exact ⟨0, 0, Nat.zero_le _, Nat.zero_le _, rfl, rfl, rfl, HG.out⟩
     case round =>
      obtain ⟨k, S, hk, hS, rfl, rfl, H1⟩ := hrel
      by_cases hlt : k < t.length
      ·obtain ⟨b', o', rfl, hc⟩ := (HC.out.keptNone H1.out.2).ngs hlt
       have HR : Hid (wr.rangeAt b' (o' + k * 24) t[k].cells) := hc k hlt
       have HZ : Hid ((Tryz.prog.info? 52).map (·.size) = some t[k].cells.length) := ng_len _
       have CWG := weigh12_any t[k] wr
       have hw80 : weighG t[k] ≤ 80 := by
        have := weightG_le [t[k]]
        rw [weightG_one] at this
        simpa using this
       have HN : Hid (heavyG S k (t.drop k) = if 3000 < S + weighG t[k] then some k else heavyG (S + weighG t[k]) (k + 1) (t.drop (k + 1))) := by
        show heavyG S k (t.drop k) = _
        rw [List.drop_eq_getElem_cons hlt, heavyG]
       obtain ⟨wg, hwg⟩ : ∃ wg, weighG t[k] = wg := ⟨_, rfl⟩
       rw [hwg] at CWG HN hw80
       obtain ⟨cs, hcs⟩ : ∃ cs, t[k].cells = cs := ⟨_, rfl⟩
       rw [hcs] at HR HZ CWG
       have hl : (k : Int) < (t.length : Int) := by omega
       have z0 : (0 : Int) ≤ (k : Int) := by omega
       have w3 : IntKind.i64.wrap ((k : Int) + 1) = (k : Int) + 1 := by rw [IntKind.wrap_i64]; omega
       have w4 : IntKind.i64.wrap ((S : Int) + (wg : Int)) = (S : Int) + (wg : Int) := by rw [IntKind.wrap_i64]; omega
       clear hc hwg hcs
       go_wp2_with (refine wpList_load_mid rfl 52 (.tmp 41) rfl b' (o' + k * 24) (by simp [Act.eval]) cs _ HR.out Tryz.underlying52 rfl HZ.out ?_)
       refine CWG.mono ?_
       rintro e w5 ⟨rfl, K5⟩
       have G5 := grown_trans H1.out.2 K5
       clear CWG K5 HR HZ
       by_cases hgt : 3000 < S + wg
       ·have t1 : (3000 : Int) < (S : Int) + (wg : Int) := by omega
        have HF2 : Hid (E = .tuple #[.int .i64 (k : Int), .int .i64 126]) := by
         show E = _
         have := H1.out.1
         rw [HN.out, if_pos hgt] at this
         rw [← HE.out, checkR, HF.out, ← this]
        clear hgt HN H1
        go_wp2
        go_ret2
        exact ⟨by rw [HF2.out]; rfl, G5⟩
       ·have t1 : decide ((3000 : Int) < (S : Int) + (wg : Int)) = false := decide_eq_false (by omega)
        have HF2 : Hid (heavyG (S + wg) (k + 1) (t.drop (k + 1)) = heavyG 0 0 t ∧ w.grownBy w5 none) := by
         refine ⟨?_, G5⟩
         have := H1.out.1
         rw [HN.out, if_neg hgt] at this
         exact this
        have hle : S + wg ≤ 3000 := by omega
        clear hgt HN H1 G5
        go_wp2
        go_roundw
        case rel => exact ⟨k + 1, S + wg, by omega, hle, by simp, by go_num, HF2⟩
        case measure => simp [intOf]; omega
      ·have hl' : ¬ (k : Int) < (t.length : Int) := by omega
       have HF2 : Hid (E = .tuple #[.int .i64 0, .int .i64 0]) := by
        show E = _
        have := H1.out.1
        rw [List.drop_eq_nil_of_le (by omega), heavyG] at this
        rw [← HE.out, checkR, HF.out, ← this]
        rfl
       have G5 := H1.out.2
       clear H1
       go_wp2
       go_ret2
       exact ⟨by rw [HF2.out]; rfl, G5⟩
  ·have e1 : ((st.length : Int) != 1) = true := by rw [bne_iff_ne]; omega
   have HF : Hid (E = .tuple #[.int .i64 (t.length : Int), .int .i64 120]) := by
    show E = _
    rw [← HE.out, checkR, HCK.out, if_pos h1]
   clear h1 HCK hwk O CL hlen
   go_wp2
   go_ret2
   exact ⟨by rw [HF.out]; rfl, HG.out⟩
theorem filt14_any (ao : Option Addr) (cap : Nat) (t : List Ng) (w : World) (C : CV w ao (flatG t)) (hm : t.length * 72 ≤ 140737488355328) (hn : ∀ x ∈ t, x.n ≤ 4294967295) :
  Calls Tryz.prog 27 #[.slice ao t.length cap] w fun e w' => e = .returned (.bool ((checkG t).2 == 0)) ∧ w.grownBy w' none := by
 have CK := refcheck_any ao cap t w C hm hn
 obtain ⟨p, e, hpe⟩ : ∃ (p : Nat) (e : Int), checkG t = (p, e) := ⟨_, _, rfl⟩
 rw [checkR, hpe] at CK
 rw [hpe]
 clear hpe C
 go_enter Tryz.func27, Tryz.ntmps27
 go_wp2_with fail
 refine CK.mono ?_
 rintro e1 w1 ⟨rfl, K1⟩
 go_wp2
 go_ret
 exact ⟨rfl, K1⟩
def codeE (c : Bool) (l : Lk) (way : Int) : Int := if c = false then 140 else if checkF l ≠ 0 then 141 else if way ≠ 0 ∧ way ≠ 1 then 142 else 0
theorem codeE_eq (t : List Ng) (l : Lk) (way : Int) : codeE ((checkG t).2 == 0) l way = refuseM t l way := by
 unfold codeE refuseM
 by_cases h : (checkG t).2 = 0
 ·rw [h]
  rfl
 ·have hb : ((checkG t).2 == 0) = false := by rw [beq_eq_false_iff_ne]; exact h
  rw [hb, if_pos rfl, if_pos h]
theorem lit0 (W : World) : (Instr.buildSlice 22 0 #[]).run Tryz.prog W = .ok (.slice (some ⟨W.heap.size, 0, none⟩) 0 0) (W.alloc (.cells #[] 52)) := by kernel_rfl
set_option maxRecDepth 100000 in
set_option maxHeartbeats 8000000 in
theorem refcode_any (num : Bool) (ao : Option Addr) (cap : Nat) (t : List Ng) (l : Lk) (way : Int) (w : World) (C : CV w ao (flatG t)) (hc0 : ao = none → cap = 0) (hm : (t.length + 2) * 72 ≤ 140737488355328) (hn : ∀ x ∈ t, x.n ≤ 4294967295) :
  Calls Tryz.prog 15 #[.slice ao t.length cap, .agg (lkA l), .int .i64 way, .bool num] w fun e w' => e = .returned (.int .i64 (refuseM (if num = true then cmpdM t else t) l way)) ∧ w.grownBy w' none := by
 have HL1 : Hid (0 + t.length ≤ maxLen) := by
  show 0 + t.length ≤ maxLen
  rw [Nat.zero_add]; unfold maxLen; omega
 have HL2 : Hid ((0 + t.length) * 72 ≤ 140737488355328) := by
  show (0 + t.length) * 72 ≤ 140737488355328
  rw [Nat.zero_add]; omega
 have HL3 : Hid (0 + t.length + 2 ≤ maxLen) := by
  show 0 + t.length + 2 ≤ maxLen
  rw [Nat.zero_add]; unfold maxLen; omega
 have HL4 : Hid ((0 + t.length + 2) * 72 ≤ 140737488355328) := by
  show (0 + t.length + 2) * 72 ≤ 140737488355328
  rw [Nat.zero_add]; exact hm
 have HBL := box_lk l
 have L1 := VAt.alloc w 24 (lkA l)
 have K1 := World.grownBy_alloc w (.cells (lkA l) 24) none
 have HLS := lk_sz l
 have HN2 : Hid (∀ x ∈ cmpdM t, x.n ≤ 4294967295) := fun x hx => by
  rcases List.mem_append.1 hx with h | h
  ·exact hn x h
  ·simp only [List.mem_cons, List.not_mem_nil, or_false] at h
   rcases h with rfl | rfl <;> simp [zeroN, eqN]
 have hcl : (cmpdM t).length = t.length + 2 := by simp [cmpdM]
 have HFT : Hid (∀ W, w.grownBy W none → Calls Tryz.prog 27 #[.slice ao t.length cap] W fun e w' => e = .returned (.bool ((checkG t).2 == 0)) ∧ W.grownBy w' none) := fun W K => filt14_any ao cap t W (C.keptNone K) (by omega) hn
 have HFC : Hid (∀ W ao' cap', CV W ao' (flatG (cmpdM t)) → Calls Tryz.prog 27 #[.slice ao' (t.length + 2) cap'] W fun e w' => e = .returned (.bool ((checkG (cmpdM t)).2 == 0)) ∧ W.grownBy w' none) := fun W ao' cap' h => by
  have := filt14_any ao' cap' (cmpdM t) W h (by rw [hcl]; exact hm) HN2.out
  rw [hcl] at this
  exact this
 have HCK : Hid (∀ W, Calls Tryz.prog 28 #[.agg (lkA l)] W fun e w' => e = .returned (.int .i64 (checkF l)) ∧ W.grownBy w' none) := fun W => refchk_any l W
 have HC : Hid (∀ W, w.grownBy W none → CV W ao (flatG t)) := fun W K => C.keptNone K
 obtain ⟨i0, hi, hz0, hz1, hz2⟩ := ng_zero
 have HI : Hid (Tryz.prog.info? 52 = some i0 ∧ i0.zero = some (.agg ngZ.cells.toArray) ∧ i0.size = 24 ∧ i0.bytes = 72) := ⟨hi, hz0, hz1, hz2⟩
 have HC0 : Hid (ao = none → cap = 0) := hc0
 have HCP : Hid (flatG t ++ flatG [zeroN, eqN] = flatG (cmpdM t)) := by
  show _ = _
  unfold cmpdM
  rw [flatG_append]
 have HBZ := bld_zeroN
 have HBQ := bld_eqN
 have HLC := lit_cmp
 have HL0 := lit0
 obtain ⟨LA, hLA⟩ : ∃ LA, lkA l = LA := ⟨_, rfl⟩
 obtain ⟨Z, hZ⟩ : ∃ Z, zeroN.cells.toArray = Z := ⟨_, rfl⟩
 obtain ⟨Q, hQ⟩ : ∃ Q, eqN.cells.toArray = Q := ⟨_, rfl⟩
 rw [hZ] at HBZ HLC
 rw [hQ] at HBQ HLC
 rw [hLA] at HBL L1 K1 HLS HCK ⊢
 clear hLA hZ hQ C hm hn hc0 hcl hi hz0 hz1 hz2
 obtain ⟨E, hE⟩ : ∃ E, refuseM (if num = true then cmpdM t else t) l way = E := ⟨_, rfl⟩
 rw [hE]
 rw [← codeE_eq] at hE
 obtain ⟨cb, hcb⟩ : ∃ c, ((checkG (if num = true then cmpdM t else t)).2 == 0) = c := ⟨_, rfl⟩
 rw [hcb] at hE
 have HE : Hid (codeE cb l way = E) := hE
 clear hE
 go_enter Tryz.func15, Tryz.ntmps15
 go_upto_region 1 with fail
 generalize w.alloc (.cells LA 24) = w1 at *
 generalize w.heap.size = B at *
 have HV1 : Hid (VAt w1 B 24 LA ∧ w.grownBy w1 none) := ⟨L1, K1⟩
 clear HBL L1 K1
 go_upto_if 11 with fail
 go_cut [9] from 12 to 18 (fun u wx => ∃ ao' n' cap', u = .slice ao' n' cap' ∧ w1.grownBy wx none ∧ (∀ W, wx.grownBy W none → Calls Tryz.prog 27 #[.slice ao' n' cap'] W fun e w' => e = .returned (.bool cb) ∧ W.grownBy w' none))
 case first =>
  cases num with
  | false =>
   have HCB : Hid (((checkG t).2 == 0) = cb) := hcb
   clear hcb
   go_wp2
   go_meet
   exact ⟨ao, t.length, cap, rfl, World.grownBy.refl _ _, fun W K => by
    have := HFT.out W (grown_trans HV1.out.2 K)
    rw [HCB.out] at this
    exact this⟩
  | true =>
   have HCB : Hid (((checkG (cmpdM t)).2 == 0) = cb) := hcb
   clear hcb
   go_wp2_with (first
    | (at_builtin; refine wpList_append_cv rfl (.tmp 12) (.tmp 13) 22 rfl 52 i0 _ 24 72 Tryz.underlying22 HI.out.1 HI.out.2.1 HI.out.2.2.1 HI.out.2.2.2 rfl (by decide) w1.heap.size _ 0 [] rfl (World.ownsRow_made w1 #[] 0 (Nat.le_refl _) (Nat.zero_le _) rfl) ao t.length cap (flatG t) rfl (flatG_len t) HC0.out (HC.out _ (grown_trans HV1.out.2 (World.grownBy_alloc _ _ _))) (flatG_one t) HL1.out HL2.out (World.grownBy_alloc _ _ none).size ?_; intro v2 w2 O2 K2; have HO2 : Hid (w2.ownsRow w1.heap.size 52 24 v2 (0 + t.length) (flatG t) ∧ w1.grownBy w2 none) := ⟨O2, grown_trans_new (World.grownBy_alloc _ _ none) K2 (fun z e => by cases e; exact Nat.le_refl _)⟩; clear O2 K2)
    | (refine wpList_bld rfl 52 #[(0, .const (.int .i64 1))] rfl _ (by kernel_rfl) (.agg Z) HBZ ?_)
    | (refine wpList_bld rfl 52 #[(0, .const (.int .i64 6)), (1, .const (.int .i64 1))] rfl _ (by kernel_rfl) (.agg Q) HBQ ?_)
    | (refine wpList_lit (by rfl) 22 2 _ rfl #[(0, .agg Z), (1, .agg Q)] (by kernel_rfl) (flatG [zeroN, eqN]) 52 HLC ?_; intro V3 w3 C3 K3)
    | (at_builtin; refine wpList_append_cv rfl (.tmp 14) (.tmp 17) 22 rfl 52 i0 _ 24 72 Tryz.underlying22 HI.out.1 HI.out.2.1 HI.out.2.2.1 HI.out.2.2.2 rfl (by decide) w1.heap.size _ (0 + t.length) (flatG t) rfl (owns_keptNone HO2.out.1 K3) (some ⟨V3, 0, none⟩) 2 2 (flatG [zeroN, eqN]) rfl rfl (fun e => by cases e) C3 (flatG_one _) HL3.out HL4.out (grown_trans HO2.out.2 K3).size ?_; intro v4 w4 O4 K4; have G4 := grown_trans_new (grown_trans HO2.out.2 K3) K4 (fun z hz => ((owns_keptNone HO2.out.1 K3).lt z hz).1)))
   rw [HCP.out, Nat.zero_add] at O4
   obtain ⟨a4, c4, hv4, C4, -⟩ := cv_of_row O4
   subst hv4
   have HFIN : Hid (w1.grownBy w4 none ∧ CV w4 a4 (flatG (cmpdM t))) := ⟨G4, C4⟩
   clear O4 K4 G4 C4 C3 K3
   go_wp2
   go_meet
   exact ⟨a4, t.length + 2, c4, rfl, HFIN.out.1, fun W K => by
    have := HFC.out W a4 c4 (HFIN.out.2.keptNone K)
    rw [HCB.out] at this
    exact this⟩
 case rest =>
 obtain ⟨ao', n', cap', rfl, K5, CF⟩ := hcut
 have HCF : Hid _ := CF
 obtain ⟨w5, hw5⟩ : ∃ w5 : World, w5 = wc := ⟨_, rfl⟩
 subst hw5
 have HV5 : Hid (VAt w5 B 24 LA ∧ w.grownBy w5 none) := ⟨HV1.out.1.kept K5, grown_trans HV1.out.2 K5⟩
 clear CF K5 HV1 HFT HFC HC hcb
 go_wp2_with fail
 refine (HCF.out w5 (World.grownBy.refl _ _)).mono ?_
 rintro e w6 ⟨rfl, K6⟩
 have HV6 : Hid (VAt w6 B 24 LA ∧ w.grownBy w6 none) := ⟨HV5.out.1.kept K6, grown_trans HV5.out.2 K6⟩
 clear K6 HV5 HCF
 cases cb with
 | false =>
  have HF : Hid (E = 140) := HE.out.symm
  clear HE
  go_wp2
  go_ret
  exact ⟨by rw [HF.out]; rfl, HV6.out.2⟩
 | true =>
 go_wp2_with (refine wpList_load_row rfl 24 (.tmp 5) rfl B rfl 24 LA (0, 0) _ HV6.out.1 Tryz.underlying24 rfl HLS ?_)
 refine (HCK.out w6).mono ?_
 rintro e w7 ⟨rfl, K7⟩
 have HG : Hid (w.grownBy w7 none) := grown_trans HV6.out.2 K7
 clear K7 HV6 HCK
 have HE2 : Hid (E = if checkF l ≠ 0 then 141 else if way ≠ 0 ∧ way ≠ 1 then 142 else 0) := HE.out.symm
 clear HE
 by_cases hk : checkF l = 0
 case neg =>
  have hkb : (checkF l != 0) = true := by rw [bne_iff_ne]; exact hk
  have HF : Hid (E = 141) := by show E = _; rw [HE2.out, if_pos hk]
  generalize checkF l = ck at *
  clear HE2 hk
  go_wp2
  go_ret
  exact ⟨by rw [HF.out]; rfl, HG.out⟩
 rw [hk]
 by_cases h0 : way = 0
 ·have HF : Hid (E = 0) := by show E = _; rw [HE2.out, if_neg (by simpa using hk), if_neg (by omega)]
  subst h0
  clear HE2 hk
  go_wp2
  go_ret
  exact ⟨by rw [HF.out]; rfl, HG.out⟩
 by_cases h1 : way = 1
 ·have HF : Hid (E = 0) := by show E = _; rw [HE2.out, if_neg (by simpa using hk), if_neg (by omega)]
  subst h1
  clear HE2 hk
  go_wp2
  go_ret
  exact ⟨by rw [HF.out]; rfl, HG.out⟩
 have HF : Hid (E = 142) := by show E = _; rw [HE2.out, if_neg (by simpa using hk), if_pos ⟨h0, h1⟩]
 have b0 : (way != 0) = true := by rw [bne_iff_ne]; exact h0
 have b1 : (way != 1) = true := by rw [bne_iff_ne]; exact h1
 clear HE2 hk h0 h1
 go_wp2
 go_ret
 exact ⟨by rw [HF.out]; rfl, HG.out⟩

end Go.Proofs.YtcodofamdhcfiaaGreat
