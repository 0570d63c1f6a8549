/-
  Package types as landed: the fault of a node.
-/
import Derived.Test.YtnojpepjloceoaaGreatTyY
namespace Go.Proofs.YtnojpepjloceoaaGreat
open Go.RowKit
set_option maxRecDepth 100000

theorem wants_nat (k : Nat) : wantsG (k : Int) = decide (k = 7 ∨ k = 8 ∨ k = 9) := by
  unfold wantsG
  apply decide_eq_decide.2
  omega
/-- What a kind's parts must be, as it lies in the table. -/
theorem takes_cv {R : RT} {w : World} (T : TabT R w) {k n : Nat} (h : arG (k : Int) = some n) : ∃ tao tcap, takesR R k = .slice tao n tcap ∧ CV w tao (List.replicate n (.int .i64 (if wantsG (k : Int) = true then 0 else 1))) := by
  have one : ∀ (b : Nat) (v : Value), w.cell? ⟨b, 0, none⟩ = some v → CV w (some ⟨b, 0, none⟩) (List.replicate 1 v) := fun b v hv => ⟨fun e => (by cases e), fun ad had i hi => by
    cases had
    rw [List.length_replicate] at hi
    obtain rfl : i = 0 := by omega
    rw [Addr.add_lit]
    exact hv⟩
  have two : ∀ (b : Nat) (v : Value), w.cell? ⟨b, 0, none⟩ = some v ∧ w.cell? ⟨b, 1, none⟩ = some v → CV w (some ⟨b, 0, none⟩) (List.replicate 2 v) := fun b v hv => ⟨fun e => (by cases e), fun ad had i hi => by
    cases had
    rw [List.length_replicate] at hi
    rw [Addr.add_lit, Nat.zero_add]
    have : i = 0 ∨ i = 1 := by omega
    rcases this with rfl | rfl
    · exact hv.1
    · exact hv.2⟩
  rw [wants_nat]
  rcases arG_cases h with ⟨rfl, h⟩ | ⟨rfl, h⟩ | ⟨rfl, h⟩
  · have : k = 3 ∨ k = 5 ∨ k = 9 := by omega
    rcases this with rfl | rfl | rfl
    · exact ⟨_, _, rfl, one _ _ T.n1⟩
    · exact ⟨_, _, rfl, one _ _ T.n1⟩
    · exact ⟨_, _, rfl, one _ _ T.t1⟩
  · have : k = 4 ∨ k = 6 ∨ k = 7 ∨ k = 8 := by omega
    rcases this with rfl | rfl | rfl | rfl
    · exact ⟨_, _, rfl, two _ _ T.n2⟩
    · exact ⟨_, _, rfl, two _ _ T.n2⟩
    · exact ⟨_, _, rfl, two _ _ T.t2⟩
    · exact ⟨_, _, rfl, two _ _ T.t2⟩
  · refine ⟨none, 0, ?_, fun _ => rfl, fun ad had => by cases had⟩
    unfold takesR
    rw [if_neg (by omega), if_neg (by omega), if_neg (by omega), if_neg (by omega)]

theorem kindE_hit {k : Int} {ps : List Pt} {p : Pt} (h : p ∈ ps) (hp : (p.truth == wantsG k) = false) : kindE k ps = if wantsG k = true then 121 else 122 := by
  unfold kindE
  rw [if_neg]
  intro ha
  have := List.all_eq_true.1 ha p h
  rw [hp] at this
  cases this
theorem kindE_none {k : Int} {ps : List Pt} (h : ∀ p ∈ ps, (p.truth == wantsG k) = true) : kindE k ps = 0 := by
  unfold kindE
  rw [if_pos (List.all_eq_true.2 h)]

set_option maxHeartbeats 4000000 in
theorem tfault_any (x : Ng) (ps : List Pt) (k : Nat) (hk : x.kind = k) (ha : arG x.kind = some ps.length) (R : RT) (ao : Option Addr) (cap : Nat) (w : World) (T : TabT R w) (C : CV w ao (flat3 ptC ps)) :
    Calls Tryz.prog 100 #[.agg (ruleC R k).toArray, .agg x.cells.toArray, .slice ao ps.length cap] w fun e w' => e = .returned (.int .i64 (faultG x ps)) ∧ w.grownBy w' none := by
  have hin := arG_in ha
  have h1 : 1 ≤ k := by omega
  have h2 : k ≤ 16 := by omega
  obtain ⟨E, hE⟩ : ∃ E, faultG x ps = E := ⟨_, rfl⟩
  rw [hE]
  have HE : Hid (faultG x ps = E) := hE
  obtain ⟨h3, h4, h5⟩ := two_boxes12 w (ruleC R k).toArray x.cells.toArray
  have HBR := box_ruleC R k
  have HBX := box_ng x
  have CU := use_any x k h1 h2 hk
  have CM := may_any x k h1 h2 hk
  have CB := bnd_any x k h1 h2 hk
  have heU := useN_enters k h1 h2
  have heM := mayN_enters k h1 h2
  have heB := bndN_enters k h1 h2
  have HEQ := ng_cmp x (useG x)
  obtain ⟨tao, tcap, htk, HTC0⟩ := takes_cv (T.kept h5) (hk ▸ ha)
  have HTC : Hid (CV _ tao _) := HTC0
  have HDZ : Hid (∀ W, CV W ao (flat3 ptC ps) → Calls Tryz.prog 129 #[.agg x.cells.toArray, .slice ao ps.length cap] W fun e w' => e = .returned (.bool (zeroE x ps)) ∧ W.grownBy w' none) := fun W CW => divZero_any x ps ao cap W CW ha
  have HCP : Hid (CV ((w.alloc (.cells (ruleC R k).toArray 120)).alloc (.cells x.cells.toArray 37)) ao (flat3 ptC ps)) := C.keptNone h5
  have HR0 : Hid ((ruleC R k).toArray[0]? = some (.slice tao ps.length tcap) ∧ (ruleC R k).toArray[3]? = some (.func (.func (useN k)) #[] #[]) ∧ (ruleC R k).toArray[4]? = some (.func (.func (mayN k)) #[] #[]) ∧ (ruleC R k).toArray[5]? = some (.func (.func (bndN k)) #[] #[])) := ⟨by rw [← htk]; rfl, rfl, rfl, rfl⟩
  have HZ : Hid ((Tryz.prog.info? 37).map (·.size) = some x.cells.toArray.size) := ng_size x
  rw [← hk] at HTC
  clear hE T C HTC0 htk
  generalize useN k = un at *
  generalize mayN k = mn at *
  generalize bndN k = bn at *
  obtain ⟨rs, hrs⟩ : ∃ rs, (ruleC R k).toArray = rs := ⟨_, rfl⟩
  obtain ⟨X, hX⟩ : ∃ X, x.cells.toArray = X := ⟨_, rfl⟩
  obtain ⟨Y, hY⟩ : ∃ Y, (useG x).cells.toArray = Y := ⟨_, rfl⟩
  rw [hrs] at h3 h4 h5 HBR HTC HCP HR0 ⊢
  rw [hX] at h3 h4 h5 HBX CU CM CB HEQ HTC HDZ HCP HZ ⊢
  rw [hY] at CU HEQ
  have hple := arG_le ha
  clear hrs hX hY hk hin h1 h2 ha
  have HCU : Hid _ := CU
  have HCM : Hid _ := CM
  have HCB : Hid _ := CB
  clear CU CM CB
  obtain ⟨sb, hsb⟩ : ∃ sb, sameG x (useG x) = sb := ⟨_, rfl⟩
  rw [hsb] at HEQ
  have HSB : Hid (sameG x (useG x) = sb) := hsb
  clear hsb
  obtain ⟨pl, hpl⟩ : ∃ pl, ps.length = pl := ⟨_, rfl⟩
  have HPL : Hid (ps.length = pl) := hpl
  have hplm : Hid (pl ≤ maxLen) := by show pl ≤ maxLen; unfold maxLen; omega
  rw [hpl] at HTC HDZ HR0 ⊢
  clear hpl hple
  go_enter Tryz.func100, Tryz.ntmps100
  go_upto_region 1 with fail
  generalize (w.alloc (.cells rs 120)).alloc (.cells X 37) = w2 at *
  generalize w.heap.size + 1 = B at *
  generalize w.heap.size = A at h3 ⊢
  have HS0 : Hid (VAt w2.drew A 120 rs ∧ VAt w2.drew B 37 X ∧ w2.grownBy w2.drew none) := ⟨h3.kept (grown_drewN w2 1 none), h4.kept (grown_drewN w2 1 none), grown_drewN w2 1 none⟩
  have HG2 : Hid (w.grownBy w2 none) := h5
  clear HBR HBX h3 h4 h5
  cases sb with
  | false =>
    refine wp_region_held_drew (S := fun W => VAt W A 120 rs ∧ VAt W B 37 X ∧ w2.grownBy W none) (by kernel_rfl) HS0.out (fun hHeld => ?_)
    refine wpAnyH_take (i := 0) (v := .agg X) rfl (by kernel_rfl) (by kernel_rfl) (by kernel_rfl) (fun _ _ _ h => h) (yieldsIf_load_row (by rfl) _ _ rfl B rfl 37 X _ (fun W hW => hW.2.1) Tryz.underlying37 rfl HZ.out) hHeld ?_
    try simp only [Act.put, List.getElem_toArray, List.getElem_cons_zero, List.setIfInBounds_toArray, List.set_cons_zero, List.set_cons_succ]
    refine wpAnyH_take (i := 1) (v := .pointer (some ⟨A, 3, none⟩)) rfl (by kernel_rfl) (by kernel_rfl) (by kernel_rfl) (fun _ _ _ h => h) (Or.inl ⟨by rfl, fun W hW => ?_⟩) hHeld ?_
    · clear hW
      go_simp
    try simp only [Act.put, List.getElem_toArray, List.getElem_cons_zero, List.getElem_cons_succ, List.setIfInBounds_toArray, List.set_cons_zero, List.set_cons_succ]
    refine wpAnyH_take (i := 2) (v := .func (.func un) #[] #[]) rfl (by kernel_rfl) (by kernel_rfl) (by kernel_rfl) (fun _ _ _ h => h) (Or.inl ⟨by rfl, fun W hW => ?_⟩) hHeld ?_
    · have c3 : W.cell? ⟨A, 3, none⟩ = some (.func (.func un) #[] #[]) := by rw [hW.1.cell 3]; exact HR0.out.2.1
      clear hW
      go_simp
    try simp only [Act.put, List.getElem_toArray, List.getElem_cons_zero, List.getElem_cons_succ, List.setIfInBounds_toArray, List.set_cons_zero, List.set_cons_succ]
    refine wpAnyH_take (i := 3) (v := .agg X) rfl (by kernel_rfl) (by kernel_rfl) (by kernel_rfl) (fun _ _ _ h => h) (yieldsIf_load_row (by rfl) _ _ rfl B rfl 37 X _ (fun W hW => hW.2.1) Tryz.underlying37 rfl HZ.out) hHeld ?_
    try simp only [Act.put, List.getElem_toArray, List.getElem_cons_zero, List.getElem_cons_succ, List.setIfInBounds_toArray, List.set_cons_zero, List.set_cons_succ]
    refine wpAnyH_ready (rs := [4]) (by kernel_rfl) (by simp) (AllReadyH.cons rfl (fun K hK => ?_) AllReadyH.nil)
    go_simp
    refine (HCU.out _).mono ?_
    rintro e wc ⟨rfl, K3⟩
    go_wp2_with fail
    refine hK.out _ _ ⟨hHeld.1.kept K3, hHeld.2.1.kept K3, grown_trans hHeld.2.2 K3⟩ (fun hHeld => ?_)
    clear hK K K3
    try simp only [Act.put, List.getElem_toArray, List.getElem_cons_zero, List.getElem_cons_succ, List.setIfInBounds_toArray, List.set_cons_zero, List.set_cons_succ]
    refine wpAnyH_take (i := 5) (v := .bool true) rfl (by kernel_rfl) (by kernel_rfl) (by kernel_rfl) (fun _ _ _ h => h) (Or.inl ⟨by rfl, fun W hW => ?_⟩) hHeld ?_
    · clear hW
      go_simp
    try simp only [Act.put, List.getElem_toArray, List.getElem_cons_zero, List.getElem_cons_succ, List.setIfInBounds_toArray, List.set_cons_zero, List.set_cons_succ]
    refine wpAnyH_take (i := 6) (v := .bool true) rfl (by kernel_rfl) (by kernel_rfl) (by kernel_rfl) (fun _ _ _ h => h) (Or.inl ⟨by rfl, fun W hW => ?_⟩) hHeld ?_
    · clear hW
      go_simp
    try simp only [Act.put, List.getElem_toArray, List.getElem_cons_zero, List.getElem_cons_succ, List.setIfInBounds_toArray, List.set_cons_zero, List.set_cons_succ]
    refine wpAnyH_take (i := 7) (v := undef) rfl (by kernel_rfl) (by kernel_rfl) (by kernel_rfl) (fun _ _ _ h => h) (Or.inr ⟨by rfl, rfl⟩) hHeld ?_
    try simp only [Act.put, List.getElem_toArray, List.getElem_cons_zero, List.getElem_cons_succ, List.setIfInBounds_toArray, List.set_cons_zero, List.set_cons_succ]
    refine wpAnyH_take (i := 8) (v := undef) rfl (by kernel_rfl) (by kernel_rfl) (by kernel_rfl) (fun _ _ _ h => h) (Or.inr ⟨by rfl, rfl⟩) hHeld ?_
    try simp only [Act.put, List.getElem_toArray, List.getElem_cons_zero, List.getElem_cons_succ, List.setIfInBounds_toArray, List.set_cons_zero, List.set_cons_succ]
    refine wpAnyH_take (i := 9) (v := undef) rfl (by kernel_rfl) (by kernel_rfl) (by kernel_rfl) (fun _ _ _ h => h) (Or.inr ⟨by rfl, rfl⟩) hHeld ?_
    try simp only [Act.put, List.getElem_toArray, List.getElem_cons_zero, List.getElem_cons_succ, List.setIfInBounds_toArray, List.set_cons_zero, List.set_cons_succ]
    refine wpAnyH_take (i := 10) (v := undef) rfl (by kernel_rfl) (by kernel_rfl) (by kernel_rfl) (fun _ _ _ h => h) (Or.inr ⟨by rfl, rfl⟩) hHeld ?_
    try simp only [Act.put, List.getElem_toArray, List.getElem_cons_zero, List.getElem_cons_succ, List.setIfInBounds_toArray, List.set_cons_zero, List.set_cons_succ]
    refine wpAnyH_take (i := 11) (v := undef) rfl (by kernel_rfl) (by kernel_rfl) (by kernel_rfl) (fun _ _ _ h => h) (Or.inr ⟨by rfl, rfl⟩) hHeld ?_
    try simp only [Act.put, List.getElem_toArray, List.getElem_cons_zero, List.getElem_cons_succ, List.setIfInBounds_toArray, List.set_cons_zero, List.set_cons_succ]
    refine wpAnyH_take (i := 12) (v := .bool true) rfl (by kernel_rfl) (by kernel_rfl) (by kernel_rfl) (fun _ _ _ h => h) (Or.inl ⟨by rfl, fun W hW => ?_⟩) hHeld ?_
    · clear hW
      go_simp
    try simp only [Act.put, List.getElem_toArray, List.getElem_cons_zero, List.getElem_cons_succ, List.setIfInBounds_toArray, List.set_cons_zero, List.set_cons_succ]
    refine wpAnyH_done (by kernel_rfl) ?_ _
    have HF : Hid (E = 120) := by show E = 120; rw [← HE.out, faultG, formG, HSB.out]; rfl
    have G3 := grown_trans HG2.out hHeld.2.2
    clear hHeld
    go_wp2
    go_ret
    exact ⟨ret_int HF.out.symm, G3⟩
  | true =>
    refine wp_region_held_drew (S := fun W => VAt W A 120 rs ∧ VAt W B 37 X ∧ w2.grownBy W none) (by kernel_rfl) HS0.out (fun hHeld => ?_)
    refine wpAnyH_take (i := 0) (v := .agg X) rfl (by kernel_rfl) (by kernel_rfl) (by kernel_rfl) (fun _ _ _ h => h) (yieldsIf_load_row (by rfl) _ _ rfl B rfl 37 X _ (fun W hW => hW.2.1) Tryz.underlying37 rfl HZ.out) hHeld ?_
    try simp only [Act.put, List.getElem_toArray, List.getElem_cons_zero, List.setIfInBounds_toArray, List.set_cons_zero, List.set_cons_succ]
    refine wpAnyH_take (i := 1) (v := .pointer (some ⟨A, 3, none⟩)) rfl (by kernel_rfl) (by kernel_rfl) (by kernel_rfl) (fun _ _ _ h => h) (Or.inl ⟨by rfl, fun W hW => ?_⟩) hHeld ?_
    · clear hW
      go_simp
    try simp only [Act.put, List.getElem_toArray, List.getElem_cons_zero, List.getElem_cons_succ, List.setIfInBounds_toArray, List.set_cons_zero, List.set_cons_succ]
    refine wpAnyH_take (i := 2) (v := .func (.func un) #[] #[]) rfl (by kernel_rfl) (by kernel_rfl) (by kernel_rfl) (fun _ _ _ h => h) (Or.inl ⟨by rfl, fun W hW => ?_⟩) hHeld ?_
    · have c3 : W.cell? ⟨A, 3, none⟩ = some (.func (.func un) #[] #[]) := by rw [hW.1.cell 3]; exact HR0.out.2.1
      clear hW
      go_simp
    try simp only [Act.put, List.getElem_toArray, List.getElem_cons_zero, List.getElem_cons_succ, List.setIfInBounds_toArray, List.set_cons_zero, List.set_cons_succ]
    refine wpAnyH_take (i := 3) (v := .agg X) rfl (by kernel_rfl) (by kernel_rfl) (by kernel_rfl) (fun _ _ _ h => h) (yieldsIf_load_row (by rfl) _ _ rfl B rfl 37 X _ (fun W hW => hW.2.1) Tryz.underlying37 rfl HZ.out) hHeld ?_
    try simp only [Act.put, List.getElem_toArray, List.getElem_cons_zero, List.getElem_cons_succ, List.setIfInBounds_toArray, List.set_cons_zero, List.set_cons_succ]
    refine wpAnyH_ready (rs := [4]) (by kernel_rfl) (by simp) (AllReadyH.cons rfl (fun K hK => ?_) AllReadyH.nil)
    go_simp
    refine (HCU.out _).mono ?_
    rintro e wc ⟨rfl, K3⟩
    go_wp2_with fail
    refine hK.out _ _ ⟨hHeld.1.kept K3, hHeld.2.1.kept K3, grown_trans hHeld.2.2 K3⟩ (fun hHeld => ?_)
    clear hK K K3
    try simp only [Act.put, List.getElem_toArray, List.getElem_cons_zero, List.getElem_cons_succ, List.setIfInBounds_toArray, List.set_cons_zero, List.set_cons_succ]
    refine wpAnyH_take (i := 5) (v := .bool false) rfl (by kernel_rfl) (by kernel_rfl) (by kernel_rfl) (fun _ _ _ h => h) (Or.inl ⟨by rfl, fun W hW => ?_⟩) hHeld ?_
    · clear hW
      go_simp
    try simp only [Act.put, List.getElem_toArray, List.getElem_cons_zero, List.getElem_cons_succ, List.setIfInBounds_toArray, List.set_cons_zero, List.set_cons_succ]
    refine wpAnyH_take (i := 6) (v := .bool false) rfl (by kernel_rfl) (by kernel_rfl) (by kernel_rfl) (fun _ _ _ h => h) (Or.inl ⟨by rfl, fun W hW => ?_⟩) hHeld ?_
    · clear hW
      go_simp
    try simp only [Act.put, List.getElem_toArray, List.getElem_cons_zero, List.getElem_cons_succ, List.setIfInBounds_toArray, List.set_cons_zero, List.set_cons_succ]
    refine wpAnyH_take (i := 7) (v := .pointer (some ⟨A, 4, none⟩)) rfl (by kernel_rfl) (by kernel_rfl) (by kernel_rfl) (fun _ _ _ h => h) (Or.inl ⟨by rfl, fun W hW => ?_⟩) hHeld ?_
    · clear hW
      go_simp
    try simp only [Act.put, List.getElem_toArray, List.getElem_cons_zero, List.getElem_cons_succ, List.setIfInBounds_toArray, List.set_cons_zero, List.set_cons_succ]
    refine wpAnyH_take (i := 8) (v := .func (.func mn) #[] #[]) rfl (by kernel_rfl) (by kernel_rfl) (by kernel_rfl) (fun _ _ _ h => h) (Or.inl ⟨by rfl, fun W hW => ?_⟩) hHeld ?_
    · have c4 : W.cell? ⟨A, 4, none⟩ = some (.func (.func mn) #[] #[]) := by rw [hW.1.cell 4]; exact HR0.out.2.2.1
      clear hW
      go_simp
    try simp only [Act.put, List.getElem_toArray, List.getElem_cons_zero, List.getElem_cons_succ, List.setIfInBounds_toArray, List.set_cons_zero, List.set_cons_succ]
    refine wpAnyH_take (i := 9) (v := .agg X) rfl (by kernel_rfl) (by kernel_rfl) (by kernel_rfl) (fun _ _ _ h => h) (yieldsIf_load_row (by rfl) _ _ rfl B rfl 37 X _ (fun W hW => hW.2.1) Tryz.underlying37 rfl HZ.out) hHeld ?_
    try simp only [Act.put, List.getElem_toArray, List.getElem_cons_zero, List.getElem_cons_succ, List.setIfInBounds_toArray, List.set_cons_zero, List.set_cons_succ]
    refine wpAnyH_ready (rs := [10]) (by kernel_rfl) (by simp) (AllReadyH.cons rfl (fun K hK => ?_) AllReadyH.nil)
    go_simp
    refine (HCM.out _).mono ?_
    rintro e wd ⟨rfl, K4⟩
    go_wp2_with fail
    refine hK.out _ _ ⟨hHeld.1.kept K4, hHeld.2.1.kept K4, grown_trans hHeld.2.2 K4⟩ (fun hHeld => ?_)
    clear hK K K4
    try simp only [Act.put, List.getElem_toArray, List.getElem_cons_zero, List.getElem_cons_succ, List.setIfInBounds_toArray, List.set_cons_zero, List.set_cons_succ]
    refine wpAnyH_take (i := 11) (v := .bool (!mayG x)) rfl (by kernel_rfl) (by kernel_rfl) (by kernel_rfl) (fun _ _ _ h => h) (Or.inl ⟨by rfl, fun W hW => ?_⟩) hHeld ?_
    · clear hW
      go_simp
    try simp only [Act.put, List.getElem_toArray, List.getElem_cons_zero, List.getElem_cons_succ, List.setIfInBounds_toArray, List.set_cons_zero, List.set_cons_succ]
    refine wpAnyH_take (i := 12) (v := .bool (!mayG x)) rfl (by kernel_rfl) (by kernel_rfl) (by kernel_rfl) (fun _ _ _ h => h) (Or.inl ⟨by rfl, fun W hW => ?_⟩) hHeld ?_
    · clear hW
      go_simp
    try simp only [Act.put, List.getElem_toArray, List.getElem_cons_zero, List.getElem_cons_succ, List.setIfInBounds_toArray, List.set_cons_zero, List.set_cons_succ]
    refine wpAnyH_done (by kernel_rfl) ?_ _
    have G3 := grown_trans HG2.out hHeld.2.2
    have H3 := hHeld
    have HTC3 : Hid (CV wd tao (List.replicate pl (.int .i64 (if wantsG x.kind = true then 0 else 1)))) := HTC.out.keptNone hHeld.2.2
    have HCP3 : Hid (CV wd ao (flat3 ptC ps)) := HCP.out.keptNone hHeld.2.2
    clear hHeld HTC HCP HS0 HG2
    cases hm : mayG x with
    | false =>
      have HF : Hid (E = 120) := by show E = 120; rw [← HE.out, faultG, formG, HSB.out, hm]; rfl
      clear hm H3
      go_wp2
      go_ret
      exact ⟨ret_int HF.out.symm, G3⟩
    | true =>
      have HF : Hid (E = if kindE x.kind ps ≠ 0 then kindE x.kind ps else if zeroE x ps = true then 123 else rangeE x) := by show E = _; rw [← HE.out, faultG, formG, HSB.out, hm]; rfl
      have c0 : wd.cell? ⟨A, 0, none⟩ = some (.slice tao pl tcap) := by rw [H3.1.cell 0]; exact HR0.out.1
      clear hm
      have HL : Hid (∀ W, Calls Tryz.prog 128 #[.int .i64 (if wantsG x.kind = true then 0 else 1)] W fun e w' => e = .returned (.int .i64 (if wantsG x.kind = true then 121 else 122)) ∧ W = w') := fun W => lacking_any (wantsG x.kind) W
      have HM : Hid (∀ p : Pt, ((if p.truth = true then (0 : Int) else 1) != (if wantsG x.kind = true then (0 : Int) else 1)) = !(p.truth == wantsG x.kind)) := fun p => by cases p.truth <;> cases wantsG x.kind <;> rfl
      obtain ⟨m, hm⟩ : ∃ m : Int, (if wantsG x.kind = true then (0 : Int) else 1) = m := ⟨_, rfl⟩
      rw [hm] at HL HM HTC3
      clear hm HEQ heU heM HCU HCM HE HSB
      have HH3 : Hid (VAt wd A 120 rs ∧ VAt wd B 37 X) := ⟨H3.1, H3.2.1⟩
      have HG3 : Hid (w.grownBy wd none) := G3
      clear H3 G3
      go_wp2
      go_loopw [25] (fun i wr => ∃ j : Nat, j ≤ pl ∧ i = .int .i64 j ∧ Hid (∀ p ∈ ps.take j, (p.truth == wantsG x.kind) = true) ∧ wr = wd) (fun i _ => pl - (intOf i).toNat)
      case atStart => exact ⟨0, Nat.zero_le _, rfl, (fun p hp => by cases hp), rfl⟩
      case round =>
        obtain ⟨j, hj, rfl, HA, rfl⟩ := hrel
        by_cases hlt : j < pl
        · obtain ⟨tb, tof, rfl, htc⟩ := HTC3.out.addr (k := j) (by rw [List.length_replicate]; exact hlt)
          have t0 := htc j (by rw [List.length_replicate]; exact hlt)
          rw [List.getElem_replicate] at t0
          have hjp : j < ps.length := by rw [HPL.out]; exact hlt
          obtain ⟨b, of, rfl, hpc⟩ := HCP3.out.pts ptC_len hjp
          have p0 := hpc j hjp 0 (.int .i64 (if ps[j].truth = true then 0 else 1)) rfl
          rw [Nat.add_zero] at p0
          have hmm := HM.out ps[j]
          have hl : (j : Int) < (pl : Int) := by omega
          have z0 : (0 : Int) ≤ (j : Int) := by omega
          have w3 : IntKind.i64.wrap ((j : Int) + 1) = (j : Int) + 1 := by rw [IntKind.wrap_i64]; have := hplm.out; unfold maxLen at this; omega
          have HTK : Hid (ps.take (j + 1) = ps.take j ++ [ps[j]]) := List.take_succ_eq_append_getElem hjp
          have HME : Hid (ps[j] ∈ ps) := List.getElem_mem hjp
          clear htc hpc
          cases ht : (ps[j].truth == wantsG x.kind) with
          | false =>
            rw [ht] at hmm
            have HF2 : Hid (E = if wantsG x.kind = true then 121 else 122) := by
              have e0 := kindE_hit HME.out ht
              show E = _
              have := HF.out
              rw [e0] at this
              rw [if_pos (by split <;> decide)] at this
              exact this
            clear ht HF HA
            generalize (if ps[j].truth = true then (0 : Int) else 1) = qv at *
            rw [Bool.not_false] at hmm
            go_wp2_with fail
            refine (HL.out _).mono ?_
            rintro e w' ⟨rfl, rfl⟩
            generalize (if wantsG x.kind = true then (121 : Int) else 122) = ee at *
            go_wp2
            go_ret
            exact ⟨ret_int HF2.out.symm, HG3.out⟩
          | true =>
            rw [ht] at hmm
            have HA2 : Hid (∀ p ∈ ps.take (j + 1), (p.truth == wantsG x.kind) = true) := fun p hp => by
              rw [HTK.out] at hp
              rcases List.mem_append.1 hp with hp | hp
              · exact HA.out p hp
              · rw [List.mem_singleton.1 hp]; exact ht
            clear ht HA
            generalize (if ps[j].truth = true then (0 : Int) else 1) = qv at *
            rw [Bool.not_true] at hmm
            go_wp2
            go_roundw
            case rel => exact ⟨j + 1, by omega, by go_num, HA2, trivial⟩
            case measure => simp [intOf]; omega
        · have HF2 : Hid (E = if zeroE x ps = true then 123 else rangeE x) := by
            have e0 : kindE x.kind ps = 0 := kindE_none (fun p hp => HA.out p (by rw [List.take_of_length_le (by rw [HPL.out]; omega)]; exact hp))
            have := HF.out
            rw [e0] at this
            exact this
          have LB := HH3.out.2
          have c5 : wr.cell? ⟨A, 5, none⟩ = some (.func (.func bn) #[] #[]) := by rw [HH3.out.1.cell 5]; exact HR0.out.2.2.2
          have hjj : ¬ (j : Int) < (pl : Int) := by omega
          clear HA HF HTC3 HM HL
          go_wp2_with (refine wpList_load_row rfl 37 (.tmp 4) rfl B rfl 37 X (0, 0) _ LB Tryz.underlying37 rfl HZ.out ?_)
          refine (HDZ.out _ HCP3.out).mono ?_
          rintro e w5 ⟨rfl, K5⟩
          have G5 := grown_trans HG3.out K5
          have LB5 := LB.kept K5
          have c55 := K5.cell c5 (by simp)
          clear LB c5 HDZ HCP3
          cases hz : zeroE x ps with
          | true =>
            have HF3 : Hid (E = 123) := by have := HF2.out; rw [hz] at this; exact this
            clear hz
            go_wp2
            go_ret
            exact ⟨ret_int HF3.out.symm, G5⟩
          | false =>
            have HF3 : Hid (E = rangeE x) := by have := HF2.out; rw [hz] at this; exact this
            have CX := HCB.out w5
            clear hz
            generalize rangeE x = re at *
            go_wp2_with (first | refine wpList_load_row rfl 37 (.tmp 4) rfl B rfl 37 X (0, 0) _ LB5 Tryz.underlying37 rfl HZ.out ?_ | (go_at_fn bn; refine CX.mono ?_; rintro e w6 ⟨rfl, K6⟩))
            go_ret
            exact ⟨ret_int HF3.out.symm, grown_trans G5 K6⟩

end Go.Proofs.YtnojpepjloceoaaGreat
