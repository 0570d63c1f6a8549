import Derived.Test.YtklipelnjgpnjaaGreatDoorSAb
import Derived.Test.YtklipelnjgpnjaaGreatDoorLotS9
set_option maxHeartbeats 64000000
set_option maxRecDepth 100000
namespace Go.Proofs.YtklipelnjgpnjaaGreatDoor
open Go.RowKit
theorem b0R (k : Nat) : M5 (k : Int) = decide (k = 7 ∨ k = 8 ∨ k = 9) := by
 unfold M5
 apply decide_eq_decide.2
 omega
theorem ad9 {R : RT} {w : World} (T : S5 R w) {k n : Nat} (h : arG (k : Int) = some n) : ∃ tao tcap, a4e R k = .slice tao n tcap ∧ CV w tao (List.replicate n (.int .i64 (if M5 (k : Int) = true then 0 else 1))) := by
 have one : ∀ (b : Nat) (v : Value), w.cell? ⟨b, 0, none⟩ = some v → CV w (some ⟨b, 0, none⟩) (List.replicate 1 v) := fun b v hv => ⟨fun e => (by cases e), fun ad had i hi => by
  cases had
  rw [List.length_replicate] at hi
  obtain rfl : i = 0 := by omega
  rw [Addr.add_lit]
  exact hv⟩
 have two : ∀ (b : Nat) (v : Value), w.cell? ⟨b, 0, none⟩ = some v ∧ w.cell? ⟨b, 1, none⟩ = some v → CV w (some ⟨b, 0, none⟩) (List.replicate 2 v) := fun b v hv => ⟨fun e => (by cases e), fun ad had i hi => by
  cases had
  rw [List.length_replicate] at hi
  rw [Addr.add_lit, Nat.zero_add]
  have : i = 0 ∨ i = 1 := by omega
  rcases this with rfl | rfl
  ·exact hv.1
  ·exact hv.2⟩
 rw [b0R]
 rcases Z8 h with ⟨rfl, h⟩ | ⟨rfl, h⟩ | ⟨rfl, h⟩
 ·have : k = 3 ∨ k = 5 ∨ k = 9 := by omega
  rcases this with rfl | rfl | rfl
  ·exact ⟨_, _, rfl, one _ _ T.n1⟩
  ·exact ⟨_, _, rfl, one _ _ T.n1⟩
  ·exact ⟨_, _, rfl, one _ _ T.t1⟩
 ·have : k = 4 ∨ k = 6 ∨ k = 7 ∨ k = 8 := by omega
  rcases this with rfl | rfl | rfl | rfl
  ·exact ⟨_, _, rfl, two _ _ T.n2⟩
  ·exact ⟨_, _, rfl, two _ _ T.n2⟩
  ·exact ⟨_, _, rfl, two _ _ T.t2⟩
  ·exact ⟨_, _, rfl, two _ _ T.t2⟩
 ·refine ⟨none, 0, ?_, fun _ => rfl, fun ad had => by cases had⟩
  unfold a4e
  rw [if_neg (by omega), if_neg (by omega), if_neg (by omega), if_neg (by omega)]
theorem az6 {k : Int} {ps : List Pt} {p : Pt} (h : p ∈ ps) (hp : (p.truth == M5 k) = false) : a0k k ps = if M5 k = true then 121 else 122 := by
 unfold a0k
 rw [if_neg]
 intro ha
 have := List.all_eq_true.1 ha p h
 rw [hp] at this
 cases this
theorem az7 {k : Int} {ps : List Pt} (h : ∀ p ∈ ps, (p.truth == M5 k) = true) : a0k k ps = 0 := by
 unfold a0k
 rw [if_pos (List.all_eq_true.2 h)]
theorem b04 (x : Ng) (ps : List Pt) (k : Nat) (hk : x.kind = k) (ha : arG x.kind = some ps.length) (R : RT) (ao : Option Addr) (cap : Nat) (w : World) (T : S5 R w) (C : CV w ao (z6 ptC ps)) :
  Calls Tryz.prog 78 #[.agg (B5 R k).toArray, .agg x.cells.toArray, .slice ao ps.length cap] w fun e w' => e = .returned (.int .i64 (E7 x ps)) ∧ w.grownBy w' none := by
 have hin := a3I ha
 have h1 : 1 ≤ k := by omega
 have h2 : k ≤ 16 := by omega
 obtain ⟨E, hE⟩ : ∃ E, E7 x ps = E := ⟨_, rfl⟩
 rw [hE]
 have HE : Hid (E7 x ps = E) := hE
 obtain ⟨h3, h4, h5⟩ := ae7 w (B5 R k).toArray x.cells.toArray
 have HBR := a86 R k
 have HBX := z8 x
 have CU := b0x x k h1 h2 hk
 have CM := aE4 x k h1 h2 hk
 have CB := al7 x k h1 h2 hk
 have heU := b0w k h1 h2
 have heM := aE0 k h1 h2
 have heB := al6 k h1 h2
 have HEQ := aH4 x (j3 x)
 obtain ⟨tao, tcap, htk, HTC0⟩ := ad9 (T.kept h5) (hk ▸ ha)
 have HTC : Hid (CV _ tao _) := HTC0
 have HDZ : Hid (∀ W, CV W ao (z6 ptC ps) → Calls Tryz.prog 117 #[.agg x.cells.toArray, .slice ao ps.length cap] W fun e w' => e = .returned (.bool (a0f x ps)) ∧ W.grownBy w' none) := fun W CW => aq3 x ps ao cap W CW ha
 have HCP : Hid (CV ((w.alloc (.cells (B5 R k).toArray 77)).alloc (.cells x.cells.toArray 43)) ao (z6 ptC ps)) := C.keptNone h5
 have HR0 : Hid ((B5 R k).toArray[0]? = some (.slice tao ps.length tcap) ∧ (B5 R k).toArray[3]? = some (.func (.func (a3B k)) #[] #[]) ∧ (B5 R k).toArray[4]? = some (.func (.func (a3f k)) #[] #[]) ∧ (B5 R k).toArray[5]? = some (.func (.func (a32 k)) #[] #[])) := ⟨by rw [← htk]; rfl, rfl, rfl, rfl⟩
 have HZ : Hid ((Tryz.prog.info? 43).map (·.size) = some x.cells.toArray.size) := I9 x
 rw [← hk] at HTC
 clear hE T C HTC0 htk
 generalize a3B k = un at *
 generalize a3f k = mn at *
 generalize a32 k = bn at *
 obtain ⟨rs, hrs⟩ : ∃ rs, (B5 R k).toArray = rs := ⟨_, rfl⟩
 obtain ⟨X, hX⟩ : ∃ X, x.cells.toArray = X := ⟨_, rfl⟩
 obtain ⟨Y, hY⟩ : ∃ Y, (j3 x).cells.toArray = Y := ⟨_, rfl⟩
 rw [hrs] at h3 h4 h5 HBR HTC HCP HR0 ⊢
 rw [hX] at h3 h4 h5 HBX CU CM CB HEQ HTC HDZ HCP HZ ⊢
 rw [hY] at CU HEQ
 have hple := a3J ha
 clear hrs hX hY hk hin h1 h2 ha
 have HCU : Hid _ := CU
 have HCM : Hid _ := CM
 have HCB : Hid _ := CB
 clear CU CM CB
 obtain ⟨sb, hsb⟩ : ∃ sb, a2e x (j3 x) = sb := ⟨_, rfl⟩
 rw [hsb] at HEQ
 have HSB : Hid (a2e x (j3 x) = sb) := hsb
 clear hsb
 obtain ⟨pl, hpl⟩ : ∃ pl, ps.length = pl := ⟨_, rfl⟩
 have HPL : Hid (ps.length = pl) := hpl
 have hplm : Hid (pl ≤ maxLen) := by show pl ≤ maxLen; unfold maxLen; omega
 rw [hpl] at HTC HDZ HR0 ⊢
 clear hpl hple
 go_enter Tryz.func78, Tryz.ntmps78
 go_upto_region 1 with fail
 generalize (w.alloc (.cells rs 77)).alloc (.cells X 43) = w2 at *
 generalize w.heap.size + 1 = B at *
 generalize w.heap.size = A at h3 ⊢
 have HS0 : Hid (VAt w2.drew A 77 rs ∧ VAt w2.drew B 43 X ∧ w2.grownBy w2.drew none) := ⟨h3.kept (f4 w2 1 none), h4.kept (f4 w2 1 none), f4 w2 1 none⟩
 have HG2 : Hid (w.grownBy w2 none) := h5
 clear HBR HBX h3 h4 h5
 cases sb with
 | false =>
  refine wp_region_held_drew (S := fun W => VAt W A 77 rs ∧ VAt W B 43 X ∧ w2.grownBy W none) (by kernel_rfl) HS0.out (fun hHeld => ?_)
  refine wpT (i := 0) (v := .agg X) rfl (M6 (by rfl) _ _ rfl B rfl 43 X _ (fun W hW => hW.2.1) Tryz.underlying43 rfl HZ.out) hHeld ?_
  try simp only [Act.put, a0, a1, a3, a4, a5]
  refine wpT (i := 1) (v := .pointer (some ⟨A, 3, none⟩)) rfl (Or.inl ⟨by rfl, fun W hW => ?_⟩) hHeld ?_
  ·clear hW
   go_simp
  try simp only [Act.put, a0, a1, a2, a3, a4, a5]
  refine wpT (i := 2) (v := .func (.func un) #[] #[]) rfl (Or.inl ⟨by rfl, fun W hW => ?_⟩) hHeld ?_
  ·have c3 : W.cell? ⟨A, 3, none⟩ = some (.func (.func un) #[] #[]) := by rw [hW.1.cell 3]; exact HR0.out.2.1
   clear hW
   go_simp
  try simp only [Act.put, a0, a1, a2, a3, a4, a5]
  refine wpT (i := 3) (v := .agg X) rfl (M6 (by rfl) _ _ rfl B rfl 43 X _ (fun W hW => hW.2.1) Tryz.underlying43 rfl HZ.out) hHeld ?_
  try simp only [Act.put, a0, a1, a2, a3, a4, a5]
  refine wpR (rs := [4]) (AllReadyH.cons rfl (fun K hK => ?_) AllReadyH.nil)
  go_simp
  refine (HCU.out _).mono ?_
  rintro e wc ⟨rfl, K3⟩
  go_wp2_with fail
  refine hK.out _ _ ⟨hHeld.1.kept K3, hHeld.2.1.kept K3, d3 hHeld.2.2 K3⟩ (fun hHeld => ?_)
  clear hK K K3
  try simp only [Act.put, a0, a1, a2, a3, a4, a5]
  refine wpT (i := 5) (v := .bool true) rfl (Or.inl ⟨by rfl, fun W hW => ?_⟩) hHeld ?_
  ·clear hW
   go_simp
  try simp only [Act.put, a0, a1, a2, a3, a4, a5]
  refine wpT (i := 6) (v := .bool true) rfl (Or.inl ⟨by rfl, fun W hW => ?_⟩) hHeld ?_
  ·clear hW
   go_simp
  try simp only [Act.put, a0, a1, a2, a3, a4, a5]
  refine wpT (i := 7) (v := undef) rfl (Or.inr ⟨by rfl, rfl⟩) hHeld ?_
  try simp only [Act.put, a0, a1, a2, a3, a4, a5]
  refine wpT (i := 8) (v := undef) rfl (Or.inr ⟨by rfl, rfl⟩) hHeld ?_
  try simp only [Act.put, a0, a1, a2, a3, a4, a5]
  refine wpT (i := 9) (v := undef) rfl (Or.inr ⟨by rfl, rfl⟩) hHeld ?_
  try simp only [Act.put, a0, a1, a2, a3, a4, a5]
  refine wpT (i := 10) (v := undef) rfl (Or.inr ⟨by rfl, rfl⟩) hHeld ?_
  try simp only [Act.put, a0, a1, a2, a3, a4, a5]
  refine wpT (i := 11) (v := undef) rfl (Or.inr ⟨by rfl, rfl⟩) hHeld ?_
  try simp only [Act.put, a0, a1, a2, a3, a4, a5]
  refine wpT (i := 12) (v := .bool true) rfl (Or.inl ⟨by rfl, fun W hW => ?_⟩) hHeld ?_
  ·clear hW
   go_simp
  try simp only [Act.put, a0, a1, a2, a3, a4, a5]
  refine wpAnyH_done (by kernel_rfl) ?_ _
  have HF : Hid (E = 120) := by show E = 120; rw [← HE.out, E7, O0, HSB.out]; rfl
  have G3 := d3 HG2.out hHeld.2.2
  clear hHeld
  go_wp2
  go_ret
  exact ⟨O6 HF.out.symm, G3⟩
 | true =>
  refine wp_region_held_drew (S := fun W => VAt W A 77 rs ∧ VAt W B 43 X ∧ w2.grownBy W none) (by kernel_rfl) HS0.out (fun hHeld => ?_)
  refine wpT (i := 0) (v := .agg X) rfl (M6 (by rfl) _ _ rfl B rfl 43 X _ (fun W hW => hW.2.1) Tryz.underlying43 rfl HZ.out) hHeld ?_
  try simp only [Act.put, a0, a1, a3, a4, a5]
  refine wpT (i := 1) (v := .pointer (some ⟨A, 3, none⟩)) rfl (Or.inl ⟨by rfl, fun W hW => ?_⟩) hHeld ?_
  ·clear hW
   go_simp
  try simp only [Act.put, a0, a1, a2, a3, a4, a5]
  refine wpT (i := 2) (v := .func (.func un) #[] #[]) rfl (Or.inl ⟨by rfl, fun W hW => ?_⟩) hHeld ?_
  ·have c3 : W.cell? ⟨A, 3, none⟩ = some (.func (.func un) #[] #[]) := by rw [hW.1.cell 3]; exact HR0.out.2.1
   clear hW
   go_simp
  try simp only [Act.put, a0, a1, a2, a3, a4, a5]
  refine wpT (i := 3) (v := .agg X) rfl (M6 (by rfl) _ _ rfl B rfl 43 X _ (fun W hW => hW.2.1) Tryz.underlying43 rfl HZ.out) hHeld ?_
  try simp only [Act.put, a0, a1, a2, a3, a4, a5]
  refine wpR (rs := [4]) (AllReadyH.cons rfl (fun K hK => ?_) AllReadyH.nil)
  go_simp
  refine (HCU.out _).mono ?_
  rintro e wc ⟨rfl, K3⟩
  go_wp2_with fail
  refine hK.out _ _ ⟨hHeld.1.kept K3, hHeld.2.1.kept K3, d3 hHeld.2.2 K3⟩ (fun hHeld => ?_)
  clear hK K K3
  try simp only [Act.put, a0, a1, a2, a3, a4, a5]
  refine wpT (i := 5) (v := .bool false) rfl (Or.inl ⟨by rfl, fun W hW => ?_⟩) hHeld ?_
  ·clear hW
   go_simp
  try simp only [Act.put, a0, a1, a2, a3, a4, a5]
  refine wpT (i := 6) (v := .bool false) rfl (Or.inl ⟨by rfl, fun W hW => ?_⟩) hHeld ?_
  ·clear hW
   go_simp
  try simp only [Act.put, a0, a1, a2, a3, a4, a5]
  refine wpT (i := 7) (v := .pointer (some ⟨A, 4, none⟩)) rfl (Or.inl ⟨by rfl, fun W hW => ?_⟩) hHeld ?_
  ·clear hW
   go_simp
  try simp only [Act.put, a0, a1, a2, a3, a4, a5]
  refine wpT (i := 8) (v := .func (.func mn) #[] #[]) rfl (Or.inl ⟨by rfl, fun W hW => ?_⟩) hHeld ?_
  ·have c4 : W.cell? ⟨A, 4, none⟩ = some (.func (.func mn) #[] #[]) := by rw [hW.1.cell 4]; exact HR0.out.2.2.1
   clear hW
   go_simp
  try simp only [Act.put, a0, a1, a2, a3, a4, a5]
  refine wpT (i := 9) (v := .agg X) rfl (M6 (by rfl) _ _ rfl B rfl 43 X _ (fun W hW => hW.2.1) Tryz.underlying43 rfl HZ.out) hHeld ?_
  try simp only [Act.put, a0, a1, a2, a3, a4, a5]
  refine wpR (rs := [10]) (AllReadyH.cons rfl (fun K hK => ?_) AllReadyH.nil)
  go_simp
  refine (HCM.out _).mono ?_
  rintro e wd ⟨rfl, K4⟩
  go_wp2_with fail
  refine hK.out _ _ ⟨hHeld.1.kept K4, hHeld.2.1.kept K4, d3 hHeld.2.2 K4⟩ (fun hHeld => ?_)
  clear hK K K4
  try simp only [Act.put, a0, a1, a2, a3, a4, a5]
  refine wpT (i := 11) (v := .bool (!m4 x)) rfl (Or.inl ⟨by rfl, fun W hW => ?_⟩) hHeld ?_
  ·clear hW
   go_simp
  try simp only [Act.put, a0, a1, a2, a3, a4, a5]
  refine wpT (i := 12) (v := .bool (!m4 x)) rfl (Or.inl ⟨by rfl, fun W hW => ?_⟩) hHeld ?_
  ·clear hW
   go_simp
  try simp only [Act.put, a0, a1, a2, a3, a4, a5]
  refine wpAnyH_done (by kernel_rfl) ?_ _
  have G3 := d3 HG2.out hHeld.2.2
  have H3 := hHeld
  have HTC3 : Hid (CV wd tao (List.replicate pl (.int .i64 (if M5 x.kind = true then 0 else 1)))) := HTC.out.keptNone hHeld.2.2
  have HCP3 : Hid (CV wd ao (z6 ptC ps)) := HCP.out.keptNone hHeld.2.2
  clear hHeld HTC HCP HS0 HG2
  cases hm : m4 x with
  | false =>
   have HF : Hid (E = 120) := by show E = 120; rw [← HE.out, E7, O0, HSB.out, hm]; rfl
   clear hm H3
   go_wp2
   go_ret
   exact ⟨O6 HF.out.symm, G3⟩
  | true =>
   have HF : Hid (E = if a0k x.kind ps ≠ 0 then a0k x.kind ps else if a0f x ps = true then 123 else o7 x) := by show E = _; rw [← HE.out, E7, O0, HSB.out, hm]; rfl
   have c0 : wd.cell? ⟨A, 0, none⟩ = some (.slice tao pl tcap) := by rw [H3.1.cell 0]; exact HR0.out.1
   clear hm
   have HL : Hid (∀ W, Calls Tryz.prog 116 #[.int .i64 (if M5 x.kind = true then 0 else 1)] W fun e w' => e = .returned (.int .i64 (if M5 x.kind = true then 121 else 122)) ∧ W = w') := fun W => az9 (M5 x.kind) W
   have HM : Hid (∀ p : Pt, ((if p.truth = true then (0 : Int) else 1) != (if M5 x.kind = true then (0 : Int) else 1)) = !(p.truth == M5 x.kind)) := fun p => by cases p.truth <;> cases M5 x.kind <;> rfl
   obtain ⟨m, hm⟩ : ∃ m : Int, (if M5 x.kind = true then (0 : Int) else 1) = m := ⟨_, rfl⟩
   rw [hm] at HL HM HTC3
   clear hm HEQ heU heM HCU HCM HE HSB
   have HH3 : Hid (VAt wd A 77 rs ∧ VAt wd B 43 X) := ⟨H3.1, H3.2.1⟩
   have HG3 : Hid (w.grownBy wd none) := G3
   clear H3 G3
   go_wp2
   go_loopw [25] (fun i wr => ∃ j : Nat, j ≤ pl ∧ i = .int .i64 j ∧ Hid (∀ p ∈ ps.take j, (p.truth == M5 x.kind) = true) ∧ wr = wd) (fun i _ => pl - (intOf i).toNat)
   case atStart => exact ⟨0, Nat.zero_le _, rfl, (fun p hp => by cases hp), rfl⟩
   case round =>
    obtain ⟨j, hj, rfl, HA, rfl⟩ := hrel
    by_cases hlt : j < pl
    ·obtain ⟨tb, tof, rfl, htc⟩ := HTC3.out.addr (k := j) (by rw [List.length_replicate]; exact hlt)
     have t0 := htc j (by rw [List.length_replicate]; exact hlt)
     rw [List.getElem_replicate] at t0
     have hjp : j < ps.length := by rw [HPL.out]; exact hlt
     obtain ⟨b, of, rfl, hpc⟩ := HCP3.out.pts a2a hjp
     have p0 := hpc j hjp 0 (.int .i64 (if ps[j].truth = true then 0 else 1)) rfl
     rw [Nat.add_zero] at p0
     have hmm := HM.out ps[j]
     have hl : (j : Int) < (pl : Int) := by omega
     have z0 : (0 : Int) ≤ (j : Int) := by omega
     have w3 : IntKind.i64.wrap ((j : Int) + 1) = (j : Int) + 1 := by rw [IntKind.wrap_i64]; have := hplm.out; unfold maxLen at this; omega
     have HTK : Hid (ps.take (j + 1) = ps.take j ++ [ps[j]]) := List.take_succ_eq_append_getElem hjp
     have HME : Hid (ps[j] ∈ ps) := List.getElem_mem hjp
     clear htc hpc
     cases ht : (ps[j].truth == M5 x.kind) with
     | false =>
      rw [ht] at hmm
      have HF2 : Hid (E = if M5 x.kind = true then 121 else 122) := by
       have e0 := az6 HME.out ht
       show E = _
       have := HF.out
       rw [e0] at this
       rw [if_pos (by split <;> decide)] at this
       exact this
      clear ht HF HA
      generalize (if ps[j].truth = true then (0 : Int) else 1) = qv at *
      rw [Bool.not_false] at hmm
      go_wp2_with fail
      refine (HL.out _).mono ?_
      rintro e w' ⟨rfl, rfl⟩
      generalize (if M5 x.kind = true then (121 : Int) else 122) = ee at *
      go_wp2
      go_ret
      exact ⟨O6 HF2.out.symm, HG3.out⟩
     | true =>
      rw [ht] at hmm
      have HA2 : Hid (∀ p ∈ ps.take (j + 1), (p.truth == M5 x.kind) = true) := fun p hp => by
       rw [HTK.out] at hp
       rcases List.mem_append.1 hp with hp | hp
       ·exact HA.out p hp
       ·rw [List.mem_singleton.1 hp]; exact ht
      clear ht HA
      generalize (if ps[j].truth = true then (0 : Int) else 1) = qv at *
      rw [Bool.not_true] at hmm
      go_wp2
      go_roundw
      case rel => exact ⟨j + 1, by omega, by go_num, HA2, trivial⟩
      case measure => simp [intOf]; omega
    ·have HF2 : Hid (E = if a0f x ps = true then 123 else o7 x) := by
      have e0 : a0k x.kind ps = 0 := az7 (fun p hp => HA.out p (by rw [List.take_of_length_le (by rw [HPL.out]; omega)]; exact hp))
      have := HF.out
      rw [e0] at this
      exact this
     have LB := HH3.out.2
     have c5 : wr.cell? ⟨A, 5, none⟩ = some (.func (.func bn) #[] #[]) := by rw [HH3.out.1.cell 5]; exact HR0.out.2.2.2
     have hjj : ¬ (j : Int) < (pl : Int) := by omega
     clear HA HF HTC3 HM HL
     go_wp2_with (refine wpList_load_row rfl 43 (.tmp 4) rfl B rfl 43 X (0, 0) _ LB Tryz.underlying43 rfl HZ.out ?_)
     refine (HDZ.out _ HCP3.out).mono ?_
     rintro e w5 ⟨rfl, K5⟩
     have G5 := d3 HG3.out K5
     have LB5 := LB.kept K5
     have c55 := K5.cell c5 (by simp)
     clear LB c5 HDZ HCP3
     cases hz : a0f x ps with
     | true =>
      have HF3 : Hid (E = 123) := by have := HF2.out; rw [hz] at this; exact this
      clear hz
      go_wp2
      go_ret
      exact ⟨O6 HF3.out.symm, G5⟩
     | false =>
      have HF3 : Hid (E = o7 x) := by have := HF2.out; rw [hz] at this; exact this
      have CX := HCB.out w5
      clear hz
      generalize o7 x = re at *
      go_wp2_with (first | refine wpList_load_row rfl 43 (.tmp 4) rfl B rfl 43 X (0, 0) _ LB5 Tryz.underlying43 rfl HZ.out ?_ | (go_at_fn bn; refine CX.mono ?_; rintro e w6 ⟨rfl, K6⟩))
      go_ret
      exact ⟨O6 HF3.out.symm, d3 G5 K6⟩
theorem ar8 {x : Ng} {ps : List Pt} (h : E7 x ps = 0) : O0 x = true ∧ a0k x.kind ps = 0 ∧ a0f x ps = false ∧ o7 x = 0 := by
 unfold E7 at h
 split at h
 ·cases h
 ·rename_i h1
  split at h
  ·rename_i h2; exact absurd h h2
  ·rename_i h2
   split at h
   ·cases h
   ·rename_i h3
    exact ⟨by simpa using h1, by omega, by simpa using h3, h⟩
theorem ai1 {op : Int} {a b : Nat} (ha : a ≤ 4294967295) (hb : b ≤ 4294967295) : F0 op a b ≤ 4294967295 := by
 unfold F0
 have h1 := ab4 a b true ha
 have h2 := ab4 a b false ha
 have h3 : a / b ≤ a := Nat.div_le_self _ _
 have h4 : a % b ≤ a := Nat.mod_le _ _
 have h5 : a &&& b ≤ a := Nat.and_le_left
 have h6 : a ||| b < 2 ^ 32 := Nat.or_lt_two_pow (by omega) (by omega)
 have h7 : a ^^^ b < 2 ^ 32 := Nat.xor_lt_two_pow (by omega) (by omega)
 repeat' split
 all_goals omega
theorem a8K {ps : List Pt} (h : ∀ p ∈ ps, p.val ≤ 4294967295) (i : Nat) : (ps.getD i pt0).val ≤ 4294967295 := by
 rw [List.getD_eq_getElem?_getD]
 cases e : ps[i]? with
 | none => simp [pt0]
 | some p => exact h p (List.mem_of_getElem? e)
theorem az1 {x : Ng} {ps : List Pt} (hx : x.n ≤ 4294967295) (h : ∀ p ∈ ps, p.val ≤ 4294967295) : (M0 x ps).val ≤ 4294967295 := by
 have h0 := a8K h 0
 have h1 := a8K h 1
 unfold M0
 split
 ·cases e : a1X x ps with
  | none => simp
  | some v =>
   simp only
   unfold a1X at e
   split at e
   ·cases e; exact hx
   ·split at e
    ·cases e; exact ai1 h0 h1
    ·split at e
     ·cases e; unfold a2z; omega
     ·cases e
 ·simp
theorem b0l (k : Nat) : (if J5 (k : Int) = true then (0 : Int) else 1) = if k ≤ 5 then 1 else 0 := by
 unfold J5
 by_cases h : k ≤ 5
 ·rw [if_pos h, if_neg (by rw [decide_eq_true_eq]; omega)]
 ·rw [if_neg h, if_pos (by rw [decide_eq_true_eq]; omega)]
def a1U : List Value := [.int .i64 0, .bool false, .int .u32 0]
theorem b05 (w : World) (cs xs ds : Array Value) : VAt (((w.alloc (.cells cs 77)).alloc (.cells xs 43)).alloc (.cells ds 58)) w.heap.size 77 cs ∧ VAt (((w.alloc (.cells cs 77)).alloc (.cells xs 43)).alloc (.cells ds 58)) (w.heap.size + 1) 43 xs ∧ VAt (((w.alloc (.cells cs 77)).alloc (.cells xs 43)).alloc (.cells ds 58)) (w.heap.size + 1 + 1) 58 ds ∧ w.grownBy (((w.alloc (.cells cs 77)).alloc (.cells xs 43)).alloc (.cells ds 58)) none := by
 obtain ⟨h1, h2, h3⟩ := ae7 w cs xs
 have K := World.grownBy_alloc ((w.alloc (.cells cs 77)).alloc (.cells xs 43)) (.cells ds 58) none
 have h := VAt.alloc ((w.alloc (.cells cs 77)).alloc (.cells xs 43)) 58 ds
 rw [show ((w.alloc (.cells cs 77)).alloc (.cells xs 43)).heap.size = w.heap.size + 1 + 1 by simp] at h
 exact ⟨h1.kept K, h2.kept K, h, d3 h3 K⟩
theorem aO7 (p : Pt) : (Tryz.prog.info? 58).map (·.size) = some (ptC p).length ∧ (Tryz.prog.info? 58).map (·.size) = some (ptC p).toArray.size ∧ 3 = (ptC p).toArray.size ∧ (ptC p).toArray.all (·.oneCell') = true := ⟨by kernel_rfl, by kernel_rfl, rfl, by rw [List.all_toArray, List.all_eq_true]; exact a5b p⟩
theorem aH8 {ps : List Pt} {p : Pt} (h : p ∈ ps) (hf : p.fixed = false) : ¬ ps.all (·.fixed) = true := fun ha => by
 have := List.all_eq_true.1 ha p h
 rw [hf] at this
 cases this
theorem az2 (x : Ng) (ps : List Pt) (k : Nat) (hk : x.kind = k) (ha : arG x.kind = some ps.length) (hf : E7 x ps = 0) (hv : ∀ p ∈ ps, p.val ≤ 4294967295) (R : RT) (ao : Option Addr) (cap : Nat) (w : World) (C : CV w ao (z6 ptC ps)) :
  Calls Tryz.prog 79 #[.agg (B5 R k).toArray, .agg x.cells.toArray, .slice ao ps.length cap] w fun e w' => e = .returned (.agg (ptC (M0 x ps)).toArray) ∧ w.grownBy w' none := by
 have hin := a3I ha
 have h1 : 1 ≤ k := by omega
 have h2 : k ≤ 16 := by omega
 have hple := a3J ha
 obtain ⟨hf1, -, hf3, -⟩ := ar8 hf
 obtain ⟨h3, h4, h5, h6⟩ := b05 w (B5 R k).toArray x.cells.toArray a1U.toArray
 have HBR := a86 R k
 have HBX := z8 x
 have heV := b0F k h1 h2
 have HCV : Hid (ps.all (·.fixed) = true → ∀ W, CV W ao (z6 ptC ps) → Calls Tryz.prog (a2S k) #[.agg x.cells.toArray, .slice ao ps.length cap] W fun e w' => e = .returned (a0o x ps) ∧ W.grownBy w' none) := fun hx W CW => b0G x ps k h1 h2 hk ha hf1 hf3 hx hv ao cap W CW
 have HCP : Hid (CV (((w.alloc (.cells (B5 R k).toArray 77)).alloc (.cells x.cells.toArray 43)).alloc (.cells a1U.toArray 58)) ao (z6 ptC ps)) := C.keptNone h6
 have HR0 : Hid ((B5 R k).toArray[1]? = some (.int .i64 (if J5 x.kind = true then 0 else 1)) ∧ (B5 R k).toArray[6]? = some (.func (.func (a2S k)) #[] #[])) := ⟨by rw [hk, b0l]; rfl, rfl⟩
 have HZ : Hid ((Tryz.prog.info? 43).map (·.size) = some x.cells.toArray.size) := I9 x
 obtain ⟨E, hE⟩ : ∃ E, M0 x ps = E := ⟨_, rfl⟩
 rw [hE]
 have HE : Hid (M0 x ps = E) := hE
 have HD : Hid (w.heap.size ≤ w.heap.size + 1 + 1) := by show w.heap.size ≤ _; omega
 obtain ⟨it, hit⟩ : ∃ it : Int, (if J5 x.kind = true then 0 else 1) = it := ⟨_, rfl⟩
 have HIT : Hid ((if J5 x.kind = true then (0 : Int) else 1) = it) := hit
 rw [hit] at HR0
 clear C hE hit hf hf1 hf3 hv
 generalize a2S k = vn at *
 obtain ⟨rs, hrs⟩ : ∃ rs, (B5 R k).toArray = rs := ⟨_, rfl⟩
 obtain ⟨X, hX⟩ : ∃ X, x.cells.toArray = X := ⟨_, rfl⟩
 rw [hrs] at h3 h4 h5 h6 HBR HCP HR0 ⊢
 rw [hX] at h3 h4 h5 h6 HBX HCV HCP HZ ⊢
 obtain ⟨pl, hpl⟩ : ∃ pl, ps.length = pl := ⟨_, rfl⟩
 have HPL : Hid (ps.length = pl) := hpl
 have hplm : Hid (pl ≤ 2) := by show pl ≤ 2; omega
 rw [hpl] at HCV ⊢
 clear hrs hX hk hin h1 h2 ha hpl hple
 go_enter Tryz.func79, Tryz.ntmps79
 go_upto_region 1 with fail
 rw [show (#[.int .i64 0, .bool false, .int .u32 0] : Array Value) = a1U.toArray from rfl]
 generalize ((w.alloc (.cells rs 77)).alloc (.cells X 43)).alloc (.cells a1U.toArray 58) = w2 at *
 obtain ⟨D, hD⟩ : ∃ D, w.heap.size + 1 + 1 = D := ⟨_, rfl⟩
 rw [hD] at h5 HD ⊢
 generalize w.heap.size + 1 = B at h4 ⊢
 generalize hwA : w.heap.size = A at h3 ⊢
 have HB0 : Hid (VAt w2 A 77 rs ∧ VAt w2 B 43 X ∧ VAt w2 D 58 a1U.toArray) := ⟨h3, h4, h5⟩
 have HG2 : Hid (w.grownBy w2 none) := h6
 clear h3 h4 h5 h6 HBR HBX hD hwA
 go_wp2
 go_loopw [13] (fun i wr => ∃ j : Nat, j ≤ pl ∧ i = .int .i64 j ∧ Hid (∀ p ∈ ps.take j, p.fixed = true) ∧ w2.grownBy wr none) (fun i _ => pl - (intOf i).toNat)
 case atStart => exact ⟨0, Nat.zero_le _, rfl, (fun p hp => by cases hp), World.grownBy.refl _ _⟩
 case round =>
  obtain ⟨j, hj, rfl, HA, G⟩ := hrel
  by_cases hlt : j < pl
  ·have hjp : j < ps.length := by rw [HPL.out]; exact hlt
   obtain ⟨b, of, rfl, hpc⟩ := (HCP.out.keptNone G).pts a2a hjp
   have HR : Hid (wr.rangeAt b (of + j * 3) (ptC ps[j])) := hpc j hjp
   have HSZ : Hid _ := aO7 ps[j]
   have HP1 : Hid ((ptC ps[j]).toArray[1]? = some (.bool ps[j].fixed)) := rfl
   have HTK : Hid (ps.take (j + 1) = ps.take j ++ [ps[j]]) := List.take_succ_eq_append_getElem hjp
   have HME : Hid (ps[j] ∈ ps) := List.getElem_mem hjp
   have hl : (j : Int) < (pl : Int) := by omega
   have z0 : (0 : Int) ≤ (j : Int) := by omega
   have w3 : IntKind.i64.wrap ((j : Int) + 1) = (j : Int) + 1 := by rw [IntKind.wrap_i64]; have := hplm.out; omega
   have K2 := World.grownBy_alloc wr (.cells (ptC ps[j]).toArray 58) none
   have V2 := VAt.alloc wr 58 (ptC ps[j]).toArray
   clear hpc
   generalize ptC ps[j] = pc at *
   go_upto_region 4 with (first | refine wpList_load_mid rfl 58 (.tmp 15) rfl b (of + j * 3) (by simp [Act.eval]) pc _ HR.out Tryz.underlying58 rfl HSZ.out.1 ?_ | refine wpList_store_row rfl 58 (.tmp 8) (.tmp 16) rfl wr.heap.size pc.toArray rfl rfl 58 _ (heap_alloc_new wr _) HSZ.out.2.1 HSZ.out.2.2.1 HSZ.out.2.2.2 ?_)
   rw [World.setRow_alloc_new]
   have G2 := d3 G K2
   generalize wr.alloc (.cells pc.toArray 58) = w4 at *
   generalize wr.heap.size = F at *
   have d1 : w4.cell? ⟨F, 1, none⟩ = some (.bool ps[j].fixed) := by rw [V2.cell 1]; exact HP1.out
   clear HR HP1 HSZ V2 K2 G
   cases hfx : ps[j].fixed with
   | false =>
    rw [hfx] at d1
    have HF : Hid (E = ⟨J5 x.kind, false, 0⟩) := by
     show E = _
     rw [← HE.out, M0, if_neg (aH8 HME.out hfx)]
    have c1 : w4.cell? ⟨A, 1, none⟩ = some (.int .i64 it) := by rw [(HB0.out.1.kept G2).cell 1]; exact HR0.out.1
    have VD := HB0.out.2.2.kept G2
    have HVD : Hid (VAt w4 D 58 a1U.toArray) := VD
    have HGF : Hid (w.grownBy (w4.setRow D #[.int .i64 it, .bool false, .int .u32 0]) none) := D1 (d3 HG2.out G2) D _ (.inr HD.out)
    have HZZ : Hid ((Tryz.prog.info? 58).map (·.size) = some (#[.int .i64 it, .bool false, .int .u32 0] : Array Value).size ∧ a1U.toArray.size = (#[.int .i64 it, .bool false, .int .u32 0] : Array Value).size ∧ (#[.int .i64 it, .bool false, .int .u32 0] : Array Value).all (·.oneCell') = true) := ⟨by kernel_rfl, rfl, by simp [Value.oneCell']⟩
    clear hfx HA
    go_wp2_with (refine wpList_store_row rfl 58 (.tmp 6) (.tmp 22) rfl D #[.int .i64 it, .bool false, .int .u32 0] rfl rfl 58 _ VD HZZ.out.1 HZZ.out.2.1 HZZ.out.2.2 ?_)
    refine bodyPost_ret (results_cell_row rfl _ _ D 58 _ (0, 0) _ rfl (HVD.out.setRow _) Tryz.underlying58 rfl HZZ.out.1) rfl ?_
    refine ⟨?_, HGF.out⟩
    rw [HF.out, ptC, ← HIT.out]
    rfl
   | true =>
    rw [hfx] at d1
    have HA2 : Hid (∀ p ∈ ps.take (j + 1), p.fixed = true) := fun p hp => by
     rw [HTK.out] at hp
     rcases List.mem_append.1 hp with hp | hp
     ·exact HA.out p hp
     ·rw [List.mem_singleton.1 hp]; exact hfx
    clear hfx HA
    go_wp2
    go_roundw
    case rel => exact ⟨j + 1, by omega, by go_num, HA2, G2⟩
    case measure => simp [intOf]; omega
  ·have HAF : Hid (ps.all (·.fixed) = true) := List.all_eq_true.2 (fun p hp => HA.out p (by rw [List.take_of_length_le (by rw [HPL.out]; omega)]; exact hp))
   have LB := HB0.out.2.1.kept G
   have c6 : wr.cell? ⟨A, 6, none⟩ = some (.func (.func vn) #[] #[]) := by rw [(HB0.out.1.kept G).cell 6]; exact HR0.out.2
   have CX := HCV.out HAF.out wr (HCP.out.keptNone G)
   have hjj : ¬ (j : Int) < (pl : Int) := by omega
   have HEV : Hid (∃ (v : Nat) (b : Bool), a0o x ps = .tuple #[.int .u32 (v : Int), .bool b] ∧ E = ⟨J5 x.kind, b, v⟩) := by
    have h := HE.out
    rw [M0, if_pos HAF.out] at h
    unfold a0o
    cases hvv : a1X x ps with
    | none => rw [hvv] at h; exact ⟨0, false, rfl, h.symm⟩
    | some v => rw [hvv] at h; exact ⟨v, true, rfl, h.symm⟩
   obtain ⟨v, fb, hv1, hv2⟩ := HEV.out
   have HV2 : Hid (E = ⟨J5 x.kind, fb, v⟩) := hv2
   rw [hv1] at CX
   clear HA HEV hv1 hv2 HCV
   go_wp2_with (first | refine wpList_load_row rfl 43 (.tmp 4) rfl B rfl 43 X (0, 0) _ LB Tryz.underlying43 rfl HZ.out ?_ | (go_at_fn vn; refine CX.mono ?_; rintro e w6 ⟨rfl, K6⟩; have G6 := d3 G K6; have VD := HB0.out.2.2.kept G6; have c1 : w6.cell? ⟨A, 1, none⟩ = some (.int .i64 it) := (by rw [(HB0.out.1.kept G6).cell 1]; exact HR0.out.1); have HGF : Hid (w.grownBy (w6.setRow D #[.int .i64 it, .bool fb, .int .u32 (v : Int)]) none) := D1 (d3 HG2.out G6) D _ (.inr HD.out); have HZZ : Hid ((Tryz.prog.info? 58).map (·.size) = some (#[.int .i64 it, .bool fb, .int .u32 (v : Int)] : Array Value).size ∧ a1U.toArray.size = (#[.int .i64 it, .bool fb, .int .u32 (v : Int)] : Array Value).size ∧ (#[.int .i64 it, .bool fb, .int .u32 (v : Int)] : Array Value).all (·.oneCell') = true) := ⟨(by kernel_rfl), rfl, (by simp [Value.oneCell'])⟩; clear K6 G LB c6 CX) | refine wpList_store_row rfl 58 (.tmp 6) (.tmp 36) rfl D #[.int .i64 it, .bool fb, .int .u32 (v : Int)] rfl rfl 58 _ VD HZZ.out.1 HZZ.out.2.1 HZZ.out.2.2 ?_)
   refine bodyPost_ret (results_cell_row rfl _ _ D 58 _ (0, 0) _ rfl (VD.setRow _) Tryz.underlying58 rfl HZZ.out.1) rfl ?_
   refine ⟨?_, HGF.out⟩
   rw [HV2.out, ptC, ← HIT.out]

end Go.Proofs.YtklipelnjgpnjaaGreatDoor
