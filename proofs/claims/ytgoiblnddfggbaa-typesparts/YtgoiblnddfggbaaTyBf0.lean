/-
  The document's own chapter 12: what comes of a node over its parts.
-/
import Derived.Test.YtgoiblnddfggbaaLotP34
import Derived.Deep.DeepCutAuto
import Derived.Deep.CutBlock
namespace Go.Proofs.Ytgoiblnddfggbaa
open Go.RowKit
set_option maxRecDepth 100000

set_option maxRecDepth 100000 in
set_option maxHeartbeats 16000000 in
theorem node_z (x : Ng) (ps : List Pt) (ao : Option Addr) (cap : Nat) (w : World) (C : CV w ao (flat3 pqC ps)) (ha : arG x.kind = some ps.length) (hn : x.n ≤ 4294967295) (hv : ∀ p ∈ ps, p.val ≤ 4294967295) (hzz : zeroE x ps = true) :
    Calls Try.prog 32 #[.agg x.cells.toArray, .slice ao ps.length cap] w fun e w' => nodeR x ps e ∧ w.grownBy w' none := by
  have HC : Hid (CV w ao (flat3 pqC ps)) := C
  have HAR : Hid (arG x.kind = some ps.length) := ha
  have HV : Hid (∀ p ∈ ps, p.val ≤ 4294967295) := hv
  have HXN : Hid (x.n ≤ 4294967295) := hn
  have hl2 := arG_le ha
  have CA := arity12_any x.kind
  have hai : arI x.kind = (ps.length : Int) := by unfold arI; rw [ha]
  rw [hai] at CA
  have HCF : Hid (∀ W : World, Calls Try.prog 66 #[.agg x.cells.toArray] W fun e w' => e = .returned (.bool (formG x)) ∧ W.grownBy w' none) := fun W => by
    have := form12_any x W
    rw [hai, decide_eq_true (by omega), Bool.true_and] at this
    exact this
  have HCW : Hid (∀ W : World, _) := wants12_any x.kind
  have HCT : Hid (∀ W : World, _) := truth12_any x.kind
  have HCR : Hid (formG x = true → ∀ W : World, Calls Try.prog 70 #[.agg x.cells.toArray] W fun e w' => e = .returned (.int .i64 (rangeE x)) ∧ W.grownBy w' none) := fun hf W => ranges12_any x W (fun h15 => by
    unfold formG mayG at hf
    rw [h15] at hf
    have h2 := (Bool.and_eq_true_iff.1 hf).2
    have h3 : hostG x = true := h2
    unfold hostG at h3
    have h4 := (Bool.and_eq_true_iff.1 (Bool.and_eq_true_iff.1 h3).1).1
    unfold inG at h4
    have h5 := Bool.and_eq_true_iff.1 h4
    have := of_decide_eq_true h5.1
    have := of_decide_eq_true h5.2
    omega)
  have HBX := box_ng x
  have h1 := NW.alloc w x
  have HZ : Hid ((Try.prog.info? 46).map (·.size) = some x.cells.toArray.size) := ng_size x
  obtain ⟨X, hX⟩ : ∃ X, x.cells.toArray = X := ⟨_, rfl⟩
  rw [hX] at HBX ⊢
  clear C ha hv hn hai
  go_enter Try.func32, Try.ntmps32
  go_upto_region 1 with fail
  rw [← hX] at HBX
  rw [show #[.bool false, .bool false, .int .u32 0] = (pqC pt0).toArray from rfl, ← hX]
  generalize (w.alloc (.cells x.cells.toArray 46)).alloc (.cells (pqC pt0).toArray 42) = w1 at *
  rw [hX]
  generalize w.heap.size = B at *
  have c0 := h1.nb.kind
  have HNB : Hid (VAt w1 B 46 X) := hX ▸ h1.nb
  have HN1 : Hid (NW w w1 B x) := h1
  rw [hX] at HCF HCR HZ
  obtain ⟨kk, hkk⟩ : ∃ kk, x.kind = kk := ⟨_, rfl⟩
  have HK : Hid (x.kind = kk) := hkk
  rw [hkk] at c0 CA HCW HCT
  have HXX : Hid (x.cells.toArray = X) := hX
  have hne : ((ps.length : Int) != (ps.length : Int)) = false := by simp
  have HPZ : Hid ((Try.prog.info? 42).map (·.size) = some (pqC pt0).toArray.size ∧ (pqC pt0).toArray.size = (pqC pt0).toArray.size ∧ (pqC pt0).toArray.all (·.oneCell') = true) := ⟨pq_size _, rfl, pq_all _⟩
  obtain ⟨Z0, hZ0⟩ : ∃ Z0, (pqC pt0).toArray = Z0 := ⟨_, rfl⟩
  clear HBX hX h1 hkk
  go_wp2_with fail
  refine (CA _).mono ?_
  rintro e w2 ⟨rfl, rfl⟩
  clear CA
  go_wp2_with (refine wpList_load_rowG rfl 46 (.tmp 2) rfl B rfl 46 X (0, 0) _ HNB.out Try.underlying46 rfl HZ.out ?_)
  refine (HCF.out _).mono ?_
  rintro e w3 ⟨rfl, K3⟩
  have HN3 : Hid (NW w w3 B x) := HN1.out.kept K3
  clear HN1 HNB HCF hne K3 c0
  cases hfm : formG x with
  | false =>
    have HFE : Hid (faultG x ps = 120) := by unfold Hid faultG; rw [hfm]; rfl
    clear hfm
    have r0 : w3.cell? ⟨B + 1, 0, none⟩ = some (.bool false) := HN3.out.res.cell 0
    have r1 : w3.cell? ⟨B + 1, 1, none⟩ = some (.bool false) := HN3.out.res.cell 1
    have r2 : w3.cell? ⟨B + 1, 2, none⟩ = some (.int .u32 0) := HN3.out.res.cell 2
    have f0 := HN3.out.res.free 0
    have f1 := HN3.out.res.free 1
    have f2 := HN3.out.res.free 2
    obtain ⟨VP, GP⟩ := HN3.out.put pt0
    have HVP : Hid (VAt _ _ _ _ ∧ w.grownBy _ none) := ⟨VP, GP⟩
    clear VP GP
    go_wp2
    refine bodyPost_ret (ret_rowT rfl _ _ (B + 1) (pqC pt0).toArray _ rfl HVP.out.1 Try.underlying42 rfl HPZ.out.1) rfl ?_
    exact ⟨⟨pt0, by rw [HFE.out]; rfl, fun h => by rw [HFE.out] at h; cases h⟩, HVP.out.2⟩
  | true =>
    have HFT : Hid (formG x = true) := hfm
    have HCR2 : Hid (∀ W : World, Calls Try.prog 70 #[.agg X] W fun e w' => e = .returned (.int .i64 (rangeE x)) ∧ W.grownBy w' none) := HCR.out hfm
    obtain ⟨wt, hwt⟩ : ∃ wt, wantsG kk = wt := ⟨_, rfl⟩
    rw [hwt] at HCW
    have HWT : Hid (wantsG x.kind = wt) := by unfold Hid; rw [HK.out]; exact hwt
    have k0 := HN3.out.nb.kind
    rw [HK.out] at k0
    clear hfm HCR hwt
    go_wp2
    go_loopw [6] (fun i wr => ∃ k : Nat, k ≤ ps.length ∧ i = .int .i64 k ∧ Hid (∀ j (_ : j < ps.length), j < k → ps[j].truth = wt) ∧ wr = w3) (fun i _ => ps.length - (intOf i).toNat)
    case atStart => exact ⟨0, Nat.zero_le _, rfl, fun j _ h => absurd h (Nat.not_lt_zero j), rfl⟩
    case round =>
      obtain ⟨k, hk, rfl, H1, rfl⟩ := hrel
      by_cases hlt : k < ps.length
      · obtain ⟨b, off, rfl, hc⟩ := CV.pts pqC_len (HC.out.keptNone HN3.out.up) hlt
        have e0 := hc k hlt 0 (.bool ps[k].truth) rfl
        rw [Nat.add_zero] at e0
        have hl : (k : Int) < (ps.length : Int) := by omega
        have z0 : (0 : Int) ≤ (k : Int) := by omega
        have w3' : IntKind.i64.wrap ((k : Int) + 1) = (k : Int) + 1 := by rw [IntKind.wrap_i64]; omega
        have HNX : Hid (ps[k].truth = wt → ∀ j (_ : j < ps.length), j < k + 1 → ps[j].truth = wt) := fun h j h1 h2 => by
          by_cases e : j = k
          · subst e; exact h
          · exact H1.out j h1 (by omega)
        have HFK : Hid (ps[k].truth ≠ wt → faultG x ps = if wt = true then 121 else 122) := fun h => fault_kind HFT.out HWT.out hlt h
        obtain ⟨pt, hpt⟩ : ∃ pt, ps[k].truth = pt := ⟨_, rfl⟩
        rw [hpt] at e0 HNX HFK
        clear hc hpt H1 HCR2 HCT HXN HV HAR
        cases pt with
        | true =>
          cases wt with
          | true =>
            have HN4 := HNX.out rfl
            clear HNX HFK
            go_wp2_with fail
            refine (HCW.out _).mono ?_
            rintro e w4 ⟨rfl, rfl⟩
            go_wp2
            go_roundw
            case rel => exact ⟨k + 1, by omega, by go_num, HN4, trivial⟩
            case measure => simp [intOf]; omega
          | false =>
            have HFE : Hid (faultG x ps = 122) := HFK.out (by simp)
            clear HNX HFK
            go_wp2_with fail
            refine (HCW.out _).mono ?_
            rintro e w4 ⟨rfl, rfl⟩
            have r0 : w4.cell? ⟨B + 1, 0, none⟩ = some (.bool false) := HN3.out.res.cell 0
            have r1 : w4.cell? ⟨B + 1, 1, none⟩ = some (.bool false) := HN3.out.res.cell 1
            have r2 : w4.cell? ⟨B + 1, 2, none⟩ = some (.int .u32 0) := HN3.out.res.cell 2
            have f0 := HN3.out.res.free 0
            have f1 := HN3.out.res.free 1
            have f2 := HN3.out.res.free 2
            obtain ⟨VP, GP⟩ := HN3.out.put pt0
            have HVP : Hid (VAt _ _ _ _ ∧ w.grownBy _ none) := ⟨VP, GP⟩
            clear VP GP
            go_wp2
            refine bodyPost_ret (ret_rowT rfl _ _ (B + 1) (pqC pt0).toArray _ rfl HVP.out.1 Try.underlying42 rfl HPZ.out.1) rfl ?_
            exact ⟨⟨pt0, by rw [HFE.out]; rfl, fun h => by rw [HFE.out] at h; cases h⟩, HVP.out.2⟩
        | false =>
          cases wt with
          | true =>
            have HFE : Hid (faultG x ps = 121) := HFK.out (by simp)
            clear HNX HFK
            go_wp2_with fail
            refine (HCW.out _).mono ?_
            rintro e w4 ⟨rfl, rfl⟩
            have r0 : w4.cell? ⟨B + 1, 0, none⟩ = some (.bool false) := HN3.out.res.cell 0
            have r1 : w4.cell? ⟨B + 1, 1, none⟩ = some (.bool false) := HN3.out.res.cell 1
            have r2 : w4.cell? ⟨B + 1, 2, none⟩ = some (.int .u32 0) := HN3.out.res.cell 2
            have f0 := HN3.out.res.free 0
            have f1 := HN3.out.res.free 1
            have f2 := HN3.out.res.free 2
            obtain ⟨VP, GP⟩ := HN3.out.put pt0
            have HVP : Hid (VAt _ _ _ _ ∧ w.grownBy _ none) := ⟨VP, GP⟩
            clear VP GP
            go_wp2
            refine bodyPost_ret (ret_rowT rfl _ _ (B + 1) (pqC pt0).toArray _ rfl HVP.out.1 Try.underlying42 rfl HPZ.out.1) rfl ?_
            exact ⟨⟨pt0, by rw [HFE.out]; rfl, fun h => by rw [HFE.out] at h; cases h⟩, HVP.out.2⟩
          | false =>
            have HN4 := HNX.out rfl
            clear HNX HFK
            go_wp2_with fail
            refine (HCW.out _).mono ?_
            rintro e w4 ⟨rfl, rfl⟩
            go_wp2
            go_roundw
            case rel => exact ⟨k + 1, by omega, by go_num, HN4, trivial⟩
            case measure => simp [intOf]; omega
      · obtain rfl : k = ps.length := by omega
        have hl' : ¬ (ps.length : Int) < (ps.length : Int) := by omega
        have HFR : Hid (faultG x ps = if zeroE x ps = true then 123 else rangeE x) := fault_rest HFT.out HWT.out (fun j h => H1.out j h h)
        clear H1
        go_wp2_with fail
        refine (HCT.out _).mono ?_
        rintro e w4 ⟨rfl, rfl⟩
        obtain ⟨tt, htt⟩ : ∃ tt, truthG kk = tt := ⟨_, rfl⟩
        have HTT : Hid (truthG x.kind = tt) := by unfold Hid; rw [HK.out]; exact htt
        rw [htt]
        have A0 := VAt.alloc w4 42 #[.bool false, .bool false, .int .u32 0]
        have a0 : (w4.alloc (.cells #[.bool false, .bool false, .int .u32 0] 42)).cell? ⟨w4.heap.size, 0, none⟩ = some (.bool false) := A0.cell 0
        have a1 : (w4.alloc (.cells #[.bool false, .bool false, .int .u32 0] 42)).cell? ⟨w4.heap.size, 1, none⟩ = some (.bool false) := A0.cell 1
        have a2 : (w4.alloc (.cells #[.bool false, .bool false, .int .u32 0] 42)).cell? ⟨w4.heap.size, 2, none⟩ = some (.int .u32 0) := A0.cell 2
        have f0 := A0.free 0
        have f1 := A0.free 1
        have f2 := A0.free 2
        have HNO := NO.make HN3.out tt
        clear A0 htt HCT HCW hl'
        go_upto_region 11 with fail
        obtain ⟨O, hO⟩ : ∃ O, w4.heap.size = O := ⟨_, rfl⟩
        rw [hO] at HNO ⊢
        clear a0 a1 a2 f0 f1 f2 hO
        generalize w4.alloc (.cells #[.bool tt, .bool false, .int .u32 0] 42) = w5 at *
        have HN3 : Hid (NW w w5 B x) := HNO.nw
        have k0 := HNO.nw.nb.kind
        rw [HK.out] at k0
        have k1 := HNO.nw.nb.op
        have k2 := HNO.nw.nb.n
        have HO5 : Hid (NO w w5 B O x ⟨tt, false, 0⟩) := HNO
        have HCP : Hid (CV w5 ao (flat3 pqC ps)) := HC.out.keptNone HNO.nw.up
        clear HNO
        have hz := hzz
        have hz2 := hz
        unfold zeroE at hz2
        simp only [Bool.and_eq_true, decide_eq_true_eq] at hz2
        obtain ⟨⟨⟨hk4, hdv⟩, hfx⟩, hv0⟩ := hz2
        have HFE : Hid (faultG x ps = 123) := by unfold Hid; rw [HFR.out, if_pos hz]
        have hlen : ps.length = 2 := by
          have := HAR.out
          rw [hk4] at this
          exact (Option.some.inj this).symm
        obtain ⟨p, r, rfl⟩ : ∃ p r, ps = [p, r] := by
          match ps, hlen with
          | [p, r], _ => exact ⟨p, r, rfl⟩
        obtain ⟨b, off, rfl, hc⟩ := CV.pts pqC_len HCP.out (k := 0) (by simp)
        have hrf : r.fixed = true := hfx
        have hrv : r.val = 0 := hv0
        have e1 := hc 1 (by simp) 1 (.bool r.fixed) rfl
        have e2 := hc 1 (by simp) 2 (.int .u32 (r.val : Int)) rfl
        rw [hrf] at e1
        rw [hrv] at e2
        simp only [Nat.one_mul] at e1 e2
        have hkk4 : (kk == 1) = false ∧ (kk == 5) = false ∧ (kk == 4) = true := by rw [← HK.out, hk4]; exact ⟨rfl, rfl, rfl⟩
        obtain ⟨q1, q5, q4⟩ := hkk4
        have l1 : (1 : Int) < (([p, r] : List Pt).length : Int) := by simp
        have hop : x.op = 4 ∨ x.op = 5 := by unfold divG at hdv; exact of_decide_eq_true hdv
        clear hz hk4 hdv hfx hv0 hlen hc hrf hrv HFR HCR2 HV HXN HCP HO5 hl2 hk hlt
        rcases hop with h | h
        · rw [h] at k1
          clear h
          have r0 : w5.cell? ⟨B + 1, 0, none⟩ = some (.bool false) := HN3.out.res.cell 0
          have r1 : w5.cell? ⟨B + 1, 1, none⟩ = some (.bool false) := HN3.out.res.cell 1
          have r2 : w5.cell? ⟨B + 1, 2, none⟩ = some (.int .u32 0) := HN3.out.res.cell 2
          have f0 := HN3.out.res.free 0
          have f1 := HN3.out.res.free 1
          have f2 := HN3.out.res.free 2
          obtain ⟨VP, GP⟩ := HN3.out.put pt0
          have HVP : Hid (VAt _ _ _ _ ∧ w.grownBy _ none) := ⟨VP, GP⟩
          clear VP GP
          go_wp2
          refine bodyPost_ret (ret_rowT rfl _ _ (B + 1) (pqC pt0).toArray _ rfl HVP.out.1 Try.underlying42 rfl HPZ.out.1) rfl ?_
          exact ⟨⟨pt0, by rw [HFE.out]; rfl, fun h => by rw [HFE.out] at h; cases h⟩, HVP.out.2⟩
        · rw [h] at k1
          clear h
          have r0 : w5.cell? ⟨B + 1, 0, none⟩ = some (.bool false) := HN3.out.res.cell 0
          have r1 : w5.cell? ⟨B + 1, 1, none⟩ = some (.bool false) := HN3.out.res.cell 1
          have r2 : w5.cell? ⟨B + 1, 2, none⟩ = some (.int .u32 0) := HN3.out.res.cell 2
          have f0 := HN3.out.res.free 0
          have f1 := HN3.out.res.free 1
          have f2 := HN3.out.res.free 2
          obtain ⟨VP, GP⟩ := HN3.out.put pt0
          have HVP : Hid (VAt _ _ _ _ ∧ w.grownBy _ none) := ⟨VP, GP⟩
          clear VP GP
          go_wp2
          refine bodyPost_ret (ret_rowT rfl _ _ (B + 1) (pqC pt0).toArray _ rfl HVP.out.1 Try.underlying42 rfl HPZ.out.1) rfl ?_
          exact ⟨⟨pt0, by rw [HFE.out]; rfl, fun h => by rw [HFE.out] at h; cases h⟩, HVP.out.2⟩

end Go.Proofs.Ytgoiblnddfggbaa
