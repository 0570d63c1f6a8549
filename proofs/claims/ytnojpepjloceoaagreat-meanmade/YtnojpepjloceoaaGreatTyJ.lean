/-
  Package types as landed: what a node makes of its parts.
-/
import Derived.Test.YtnojpepjloceoaaGreatTyZ
namespace Go.Proofs.YtnojpepjloceoaaGreat
open Go.RowKit
set_option maxRecDepth 100000

theorem faultG_zero {x : Ng} {ps : List Pt} (h : faultG x ps = 0) : formG x = true ∧ kindE x.kind ps = 0 ∧ zeroE x ps = false ∧ rangeE x = 0 := by
  unfold faultG at h
  split at h
  · cases h
  · rename_i h1
    split at h
    · rename_i h2; exact absurd h h2
    · rename_i h2
      split at h
      · cases h
      · rename_i h3
        exact ⟨by simpa using h1, by omega, by simpa using h3, h⟩
theorem arithG_le {op : Int} {a b : Nat} (ha : a ≤ 4294967295) (hb : b ≤ 4294967295) : arithG op a b ≤ 4294967295 := by
  unfold arithG
  have h1 := shiftV_le a b true ha
  have h2 := shiftV_le a b false ha
  have h3 : a / b ≤ a := Nat.div_le_self _ _
  have h4 : a % b ≤ a := Nat.mod_le _ _
  have h5 : a &&& b ≤ a := Nat.and_le_left
  have h6 : a ||| b < 2 ^ 32 := Nat.or_lt_two_pow (by omega) (by omega)
  have h7 : a ^^^ b < 2 ^ 32 := Nat.xor_lt_two_pow (by omega) (by omega)
  repeat' split
  all_goals omega
theorem getD_le {ps : List Pt} (h : ∀ p ∈ ps, p.val ≤ 4294967295) (i : Nat) : (ps.getD i pt0).val ≤ 4294967295 := by
  rw [List.getD_eq_getElem?_getD]
  cases e : ps[i]? with
  | none => simp [pt0]
  | some p => exact h p (List.mem_of_getElem? e)
theorem joinG_le {x : Ng} {ps : List Pt} (hx : x.n ≤ 4294967295) (h : ∀ p ∈ ps, p.val ≤ 4294967295) : (joinG x ps).val ≤ 4294967295 := by
  have h0 := getD_le h 0
  have h1 := getD_le h 1
  unfold joinG
  split
  · cases e : valG x ps with
    | none => simp
    | some v =>
      simp only
      unfold valG at e
      split at e
      · cases e; exact hx
      · split at e
        · cases e; exact arithG_le h0 h1
        · split at e
          · cases e; unfold minusG; omega
          · cases e
  · simp
theorem truth_nat (k : Nat) : (if truthG (k : Int) = true then (0 : Int) else 1) = if k ≤ 5 then 1 else 0 := by
  unfold truthG
  by_cases h : k ≤ 5
  · rw [if_pos h, if_neg (by rw [decide_eq_true_eq]; omega)]
  · rw [if_neg h, if_pos (by rw [decide_eq_true_eq]; omega)]
def pt0C : List Value := [.int .i64 0, .bool false, .int .u32 0]
theorem three_boxes (w : World) (cs xs ds : Array Value) : VAt (((w.alloc (.cells cs 120)).alloc (.cells xs 37)).alloc (.cells ds 96)) w.heap.size 120 cs ∧ VAt (((w.alloc (.cells cs 120)).alloc (.cells xs 37)).alloc (.cells ds 96)) (w.heap.size + 1) 37 xs ∧ VAt (((w.alloc (.cells cs 120)).alloc (.cells xs 37)).alloc (.cells ds 96)) (w.heap.size + 1 + 1) 96 ds ∧ w.grownBy (((w.alloc (.cells cs 120)).alloc (.cells xs 37)).alloc (.cells ds 96)) none := by
  obtain ⟨h1, h2, h3⟩ := two_boxes12 w cs xs
  have K := World.grownBy_alloc ((w.alloc (.cells cs 120)).alloc (.cells xs 37)) (.cells ds 96) none
  have h := VAt.alloc ((w.alloc (.cells cs 120)).alloc (.cells xs 37)) 96 ds
  rw [show ((w.alloc (.cells cs 120)).alloc (.cells xs 37)).heap.size = w.heap.size + 1 + 1 by simp] at h
  exact ⟨h1.kept K, h2.kept K, h, grown_trans h3 K⟩
theorem part_size (p : Pt) : (Tryz.prog.info? 96).map (·.size) = some (ptC p).length ∧ (Tryz.prog.info? 96).map (·.size) = some (ptC p).toArray.size ∧ 3 = (ptC p).toArray.size ∧ (ptC p).toArray.all (·.oneCell') = true := ⟨by kernel_rfl, by kernel_rfl, rfl, by rw [List.all_toArray, List.all_eq_true]; exact ptC_one p⟩
theorem not_all_fixed {ps : List Pt} {p : Pt} (h : p ∈ ps) (hf : p.fixed = false) : ¬ ps.all (·.fixed) = true := fun ha => by
  have := List.all_eq_true.1 ha p h
  rw [hf] at this
  cases this

set_option maxHeartbeats 4000000 in
theorem join_any (x : Ng) (ps : List Pt) (k : Nat) (hk : x.kind = k) (ha : arG x.kind = some ps.length) (hf : faultG x ps = 0) (hv : ∀ p ∈ ps, p.val ≤ 4294967295) (R : RT) (ao : Option Addr) (cap : Nat) (w : World) (C : CV w ao (flat3 ptC ps)) :
    Calls Tryz.prog 101 #[.agg (ruleC R k).toArray, .agg x.cells.toArray, .slice ao ps.length cap] w fun e w' => e = .returned (.agg (ptC (joinG x ps)).toArray) ∧ w.grownBy w' none := by
  have hin := arG_in ha
  have h1 : 1 ≤ k := by omega
  have h2 : k ≤ 16 := by omega
  have hple := arG_le ha
  obtain ⟨hf1, -, hf3, -⟩ := faultG_zero hf
  obtain ⟨h3, h4, h5, h6⟩ := three_boxes w (ruleC R k).toArray x.cells.toArray pt0C.toArray
  have HBR := box_ruleC R k
  have HBX := box_ng x
  have heV := valN_enters k h1 h2
  have HCV : Hid (ps.all (·.fixed) = true → ∀ W, CV W ao (flat3 ptC ps) → Calls Tryz.prog (valN k) #[.agg x.cells.toArray, .slice ao ps.length cap] W fun e w' => e = .returned (valR x ps) ∧ W.grownBy w' none) := fun hx W CW => val_any x ps k h1 h2 hk ha hf1 hf3 hx hv ao cap W CW
  have HCP : Hid (CV (((w.alloc (.cells (ruleC R k).toArray 120)).alloc (.cells x.cells.toArray 37)).alloc (.cells pt0C.toArray 96)) ao (flat3 ptC ps)) := C.keptNone h6
  have HR0 : Hid ((ruleC R k).toArray[1]? = some (.int .i64 (if truthG x.kind = true then 0 else 1)) ∧ (ruleC R k).toArray[6]? = some (.func (.func (valN k)) #[] #[])) := ⟨by rw [hk, truth_nat]; rfl, rfl⟩
  have HZ : Hid ((Tryz.prog.info? 37).map (·.size) = some x.cells.toArray.size) := ng_size x
  obtain ⟨E, hE⟩ : ∃ E, joinG x ps = E := ⟨_, rfl⟩
  rw [hE]
  have HE : Hid (joinG x ps = E) := hE
  have HD : Hid (w.heap.size ≤ w.heap.size + 1 + 1) := by show w.heap.size ≤ _; omega
  obtain ⟨it, hit⟩ : ∃ it : Int, (if truthG x.kind = true then 0 else 1) = it := ⟨_, rfl⟩
  have HIT : Hid ((if truthG x.kind = true then (0 : Int) else 1) = it) := hit
  rw [hit] at HR0
  clear C hE hit hf hf1 hf3 hv
  generalize valN k = vn at *
  obtain ⟨rs, hrs⟩ : ∃ rs, (ruleC R k).toArray = rs := ⟨_, rfl⟩
  obtain ⟨X, hX⟩ : ∃ X, x.cells.toArray = X := ⟨_, rfl⟩
  rw [hrs] at h3 h4 h5 h6 HBR HCP HR0 ⊢
  rw [hX] at h3 h4 h5 h6 HBX HCV HCP HZ ⊢
  obtain ⟨pl, hpl⟩ : ∃ pl, ps.length = pl := ⟨_, rfl⟩
  have HPL : Hid (ps.length = pl) := hpl
  have hplm : Hid (pl ≤ 2) := by show pl ≤ 2; omega
  rw [hpl] at HCV ⊢
  clear hrs hX hk hin h1 h2 ha hpl hple
  go_enter Tryz.func101, Tryz.ntmps101
  go_upto_region 1 with fail
  rw [show (#[.int .i64 0, .bool false, .int .u32 0] : Array Value) = pt0C.toArray from rfl]
  generalize ((w.alloc (.cells rs 120)).alloc (.cells X 37)).alloc (.cells pt0C.toArray 96) = w2 at *
  obtain ⟨D, hD⟩ : ∃ D, w.heap.size + 1 + 1 = D := ⟨_, rfl⟩
  rw [hD] at h5 HD ⊢
  generalize w.heap.size + 1 = B at h4 ⊢
  generalize hwA : w.heap.size = A at h3 ⊢
  have HB0 : Hid (VAt w2 A 120 rs ∧ VAt w2 B 37 X ∧ VAt w2 D 96 pt0C.toArray) := ⟨h3, h4, h5⟩
  have HG2 : Hid (w.grownBy w2 none) := h6
  clear h3 h4 h5 h6 HBR HBX hD hwA
  go_wp2
  go_loopw [13] (fun i wr => ∃ j : Nat, j ≤ pl ∧ i = .int .i64 j ∧ Hid (∀ p ∈ ps.take j, p.fixed = true) ∧ w2.grownBy wr none) (fun i _ => pl - (intOf i).toNat)
  case atStart => exact ⟨0, Nat.zero_le _, rfl, (fun p hp => by cases hp), World.grownBy.refl _ _⟩
  case round =>
    obtain ⟨j, hj, rfl, HA, G⟩ := hrel
    by_cases hlt : j < pl
    · have hjp : j < ps.length := by rw [HPL.out]; exact hlt
      obtain ⟨b, of, rfl, hpc⟩ := (HCP.out.keptNone G).pts ptC_len hjp
      have HR : Hid (wr.rangeAt b (of + j * 3) (ptC ps[j])) := hpc j hjp
      have HSZ : Hid _ := part_size ps[j]
      have HP1 : Hid ((ptC ps[j]).toArray[1]? = some (.bool ps[j].fixed)) := rfl
      have HTK : Hid (ps.take (j + 1) = ps.take j ++ [ps[j]]) := List.take_succ_eq_append_getElem hjp
      have HME : Hid (ps[j] ∈ ps) := List.getElem_mem hjp
      have hl : (j : Int) < (pl : Int) := by omega
      have z0 : (0 : Int) ≤ (j : Int) := by omega
      have w3 : IntKind.i64.wrap ((j : Int) + 1) = (j : Int) + 1 := by rw [IntKind.wrap_i64]; have := hplm.out; omega
      have K2 := World.grownBy_alloc wr (.cells (ptC ps[j]).toArray 96) none
      have V2 := VAt.alloc wr 96 (ptC ps[j]).toArray
      clear hpc
      generalize ptC ps[j] = pc at *
      go_upto_region 4 with (first | refine wpList_load_mid rfl 96 (.tmp 15) rfl b (of + j * 3) (by simp [Act.eval]) pc _ HR.out Tryz.underlying96 rfl HSZ.out.1 ?_ | refine wpList_store_row rfl 96 (.tmp 8) (.tmp 16) rfl wr.heap.size pc.toArray rfl rfl 96 _ (heap_alloc_new wr _) HSZ.out.2.1 HSZ.out.2.2.1 HSZ.out.2.2.2 ?_)
      rw [World.setRow_alloc_new]
      have G2 := grown_trans G K2
      generalize wr.alloc (.cells pc.toArray 96) = w4 at *
      generalize wr.heap.size = F at *
      have d1 : w4.cell? ⟨F, 1, none⟩ = some (.bool ps[j].fixed) := by rw [V2.cell 1]; exact HP1.out
      clear HR HP1 HSZ V2 K2 G
      cases hfx : ps[j].fixed with
      | false =>
        rw [hfx] at d1
        have HF : Hid (E = ⟨truthG x.kind, false, 0⟩) := by
          show E = _
          rw [← HE.out, joinG, if_neg (not_all_fixed HME.out hfx)]
        have c1 : w4.cell? ⟨A, 1, none⟩ = some (.int .i64 it) := by rw [(HB0.out.1.kept G2).cell 1]; exact HR0.out.1
        have VD := HB0.out.2.2.kept G2
        have HVD : Hid (VAt w4 D 96 pt0C.toArray) := VD
        have HGF : Hid (w.grownBy (w4.setRow D #[.int .i64 it, .bool false, .int .u32 0]) none) := vgrown_setRow (grown_trans HG2.out G2) D _ (.inr HD.out)
        have HZZ : Hid ((Tryz.prog.info? 96).map (·.size) = some (#[.int .i64 it, .bool false, .int .u32 0] : Array Value).size ∧ pt0C.toArray.size = (#[.int .i64 it, .bool false, .int .u32 0] : Array Value).size ∧ (#[.int .i64 it, .bool false, .int .u32 0] : Array Value).all (·.oneCell') = true) := ⟨by kernel_rfl, rfl, by simp [Value.oneCell']⟩
        clear hfx HA
        go_wp2_with (refine wpList_store_row rfl 96 (.tmp 6) (.tmp 22) rfl D #[.int .i64 it, .bool false, .int .u32 0] rfl rfl 96 _ VD HZZ.out.1 HZZ.out.2.1 HZZ.out.2.2 ?_)
        refine bodyPost_ret (results_cell_row rfl _ _ D 96 _ (0, 0) _ rfl (HVD.out.setRow _) Tryz.underlying96 rfl HZZ.out.1) rfl ?_
        refine ⟨?_, HGF.out⟩
        rw [HF.out, ptC, ← HIT.out]
        rfl
      | true =>
        rw [hfx] at d1
        have HA2 : Hid (∀ p ∈ ps.take (j + 1), p.fixed = true) := fun p hp => by
          rw [HTK.out] at hp
          rcases List.mem_append.1 hp with hp | hp
          · exact HA.out p hp
          · rw [List.mem_singleton.1 hp]; exact hfx
        clear hfx HA
        go_wp2
        go_roundw
        case rel => exact ⟨j + 1, by omega, by go_num, HA2, G2⟩
        case measure => simp [intOf]; omega
    · have HAF : Hid (ps.all (·.fixed) = true) := List.all_eq_true.2 (fun p hp => HA.out p (by rw [List.take_of_length_le (by rw [HPL.out]; omega)]; exact hp))
      have LB := HB0.out.2.1.kept G
      have c6 : wr.cell? ⟨A, 6, none⟩ = some (.func (.func vn) #[] #[]) := by rw [(HB0.out.1.kept G).cell 6]; exact HR0.out.2
      have CX := HCV.out HAF.out wr (HCP.out.keptNone G)
      have hjj : ¬ (j : Int) < (pl : Int) := by omega
      have HEV : Hid (∃ (v : Nat) (b : Bool), valR x ps = .tuple #[.int .u32 (v : Int), .bool b] ∧ E = ⟨truthG x.kind, b, v⟩) := by
        have h := HE.out
        rw [joinG, if_pos HAF.out] at h
        unfold valR
        cases hvv : valG x ps with
        | none => rw [hvv] at h; exact ⟨0, false, rfl, h.symm⟩
        | some v => rw [hvv] at h; exact ⟨v, true, rfl, h.symm⟩
      obtain ⟨v, fb, hv1, hv2⟩ := HEV.out
      have HV2 : Hid (E = ⟨truthG x.kind, fb, v⟩) := hv2
      rw [hv1] at CX
      clear HA HEV hv1 hv2 HCV
      go_wp2_with (first | refine wpList_load_row rfl 37 (.tmp 4) rfl B rfl 37 X (0, 0) _ LB Tryz.underlying37 rfl HZ.out ?_ | (go_at_fn vn; refine CX.mono ?_; rintro e w6 ⟨rfl, K6⟩; have G6 := grown_trans G K6; have VD := HB0.out.2.2.kept G6; have c1 : w6.cell? ⟨A, 1, none⟩ = some (.int .i64 it) := (by rw [(HB0.out.1.kept G6).cell 1]; exact HR0.out.1); have HGF : Hid (w.grownBy (w6.setRow D #[.int .i64 it, .bool fb, .int .u32 (v : Int)]) none) := vgrown_setRow (grown_trans HG2.out G6) D _ (.inr HD.out); have HZZ : Hid ((Tryz.prog.info? 96).map (·.size) = some (#[.int .i64 it, .bool fb, .int .u32 (v : Int)] : Array Value).size ∧ pt0C.toArray.size = (#[.int .i64 it, .bool fb, .int .u32 (v : Int)] : Array Value).size ∧ (#[.int .i64 it, .bool fb, .int .u32 (v : Int)] : Array Value).all (·.oneCell') = true) := ⟨(by kernel_rfl), rfl, (by simp [Value.oneCell'])⟩; clear K6 G LB c6 CX) | refine wpList_store_row rfl 96 (.tmp 6) (.tmp 36) rfl D #[.int .i64 it, .bool fb, .int .u32 (v : Int)] rfl rfl 96 _ VD HZZ.out.1 HZZ.out.2.1 HZZ.out.2.2 ?_)
      refine bodyPost_ret (results_cell_row rfl _ _ D 96 _ (0, 0) _ rfl (VD.setRow _) Tryz.underlying96 rfl HZZ.out.1) rfl ?_
      refine ⟨?_, HGF.out⟩
      rw [HV2.out, ptC, ← HIT.out]

end Go.Proofs.YtnojpepjloceoaaGreat
