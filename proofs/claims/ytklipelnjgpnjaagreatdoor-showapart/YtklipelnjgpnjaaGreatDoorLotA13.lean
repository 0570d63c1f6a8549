import Derived.Test.YtklipelnjgpnjaaGreatDoorAb
import Derived.Test.YtklipelnjgpnjaaGreatDoorLotA12
import Derived.Test.YtklipelnjgpnjaaGreatDoorLotA5
namespace Go.Proofs.YtklipelnjgpnjaaGreatDoor
open Go.RowKit
set_option maxRecDepth 100000
theorem faultG_zero {x : Ng} {ps : List Pt} (h : faultG x ps = 0) : formG x = true ∧ kindE x.kind ps = 0 ∧ zeroE x ps = false ∧ rangeE x = 0 := by
 unfold faultG at h
 split at h
 ·cases h
 ·rename_i h1
  split at h
  ·rename_i h2; exact absurd h h2
  ·rename_i h2
   split at h
   ·cases h
   ·rename_i h3
    exact ⟨by simpa using h1, by omega, by simpa using h3, h⟩
theorem arithG_le {op : Int} {a b : Nat} (ha : a ≤ 4294967295) (hb : b ≤ 4294967295) : arithG op a b ≤ 4294967295 := by
 unfold arithG
 have h1 := shiftV_le a b true ha
 have h2 := shiftV_le a b false ha
 have h3 : a / b ≤ a := Nat.div_le_self _ _
 have h4 : a % b ≤ a := Nat.mod_le _ _
 have h5 : a &&& b ≤ a := Nat.and_le_left
 have h6 : a ||| b < 2 ^ 32 := Nat.or_lt_two_pow (by omega) (by omega)
 have h7 : a ^^^ b < 2 ^ 32 := Nat.xor_lt_two_pow (by omega) (by omega)
 repeat' split
 all_goals omega
theorem getD_le {ps : List Pt} (h : ∀ p ∈ ps, p.val ≤ 4294967295) (i : Nat) : (ps.getD i pt0).val ≤ 4294967295 := by
 rw [List.getD_eq_getElem?_getD]
 cases e : ps[i]? with
 | none => simp [pt0]
 | some p => exact h p (List.mem_of_getElem? e)
theorem joinG_le {x : Ng} {ps : List Pt} (hx : x.n ≤ 4294967295) (h : ∀ p ∈ ps, p.val ≤ 4294967295) : (joinG x ps).val ≤ 4294967295 := by
 have h0 := getD_le h 0
 have h1 := getD_le h 1
 unfold joinG
 split
 ·cases e : valG x ps with
  | none => simp
  | some v =>
   simp only
   unfold valG at e
   split at e
   ·cases e; exact hx
   ·split at e
    ·cases e; exact arithG_le h0 h1
    ·split at e
     ·cases e; unfold minusG; omega
     ·cases e
 ·simp
theorem truth_nat (k : Nat) : (if truthG (k : Int) = true then (0 : Int) else 1) = if k ≤ 5 then 1 else 0 := by
 unfold truthG
 by_cases h : k ≤ 5
 ·rw [if_pos h, if_neg (by rw [decide_eq_true_eq]; omega)]
 ·rw [if_neg h, if_pos (by rw [decide_eq_true_eq]; omega)]
def pt0C : List Value := [.int .i64 0, .bool false, .int .u32 0]
theorem three_boxes (w : World) (cs xs ds : Array Value) : VAt (((w.alloc (.cells cs 77)).alloc (.cells xs 43)).alloc (.cells ds 58)) w.heap.size 77 cs ∧ VAt (((w.alloc (.cells cs 77)).alloc (.cells xs 43)).alloc (.cells ds 58)) (w.heap.size + 1) 43 xs ∧ VAt (((w.alloc (.cells cs 77)).alloc (.cells xs 43)).alloc (.cells ds 58)) (w.heap.size + 1 + 1) 58 ds ∧ w.grownBy (((w.alloc (.cells cs 77)).alloc (.cells xs 43)).alloc (.cells ds 58)) none := by
 obtain ⟨h1, h2, h3⟩ := two_boxes12 w cs xs
 have K := World.grownBy_alloc ((w.alloc (.cells cs 77)).alloc (.cells xs 43)) (.cells ds 58) none
 have h := VAt.alloc ((w.alloc (.cells cs 77)).alloc (.cells xs 43)) 58 ds
 rw [show ((w.alloc (.cells cs 77)).alloc (.cells xs 43)).heap.size = w.heap.size + 1 + 1 by simp] at h
 exact ⟨h1.kept K, h2.kept K, h, grown_trans h3 K⟩
theorem part_size (p : Pt) : (Tryz.prog.info? 58).map (·.size) = some (ptC p).length ∧ (Tryz.prog.info? 58).map (·.size) = some (ptC p).toArray.size ∧ 3 = (ptC p).toArray.size ∧ (ptC p).toArray.all (·.oneCell') = true := ⟨by kernel_rfl, by kernel_rfl, rfl, by rw [List.all_toArray, List.all_eq_true]; exact ptC_one p⟩
theorem not_all_fixed {ps : List Pt} {p : Pt} (h : p ∈ ps) (hf : p.fixed = false) : ¬ ps.all (·.fixed) = true := fun ha => by
 have := List.all_eq_true.1 ha p h
 rw [hf] at this
 cases this
set_option maxHeartbeats 4000000 in
theorem join_any (x : Ng) (ps : List Pt) (k : Nat) (hk : x.kind = k) (ha : arG x.kind = some ps.length) (hf : faultG x ps = 0) (hv : ∀ p ∈ ps, p.val ≤ 4294967295) (R : RT) (ao : Option Addr) (cap : Nat) (w : World) (C : CV w ao (flat3 ptC ps)) :
  Calls Tryz.prog 79 #[.agg (ruleC R k).toArray, .agg x.cells.toArray, .slice ao ps.length cap] w fun e w' => e = .returned (.agg (ptC (joinG x ps)).toArray) ∧ w.grownBy w' none := by
 have hin := arG_in ha
 have h1 : 1 ≤ k := by omega
 have h2 : k ≤ 16 := by omega
 have hple := arG_le ha
 obtain ⟨hf1, -, hf3, -⟩ := faultG_zero hf
 obtain ⟨h3, h4, h5, h6⟩ := three_boxes w (ruleC R k).toArray x.cells.toArray pt0C.toArray
 have HBR := box_ruleC R k
 have HBX := box_ng x
 have heV := valN_enters k h1 h2
 have HCV : Hid (ps.all (·.fixed) = true → ∀ W, CV W ao (flat3 ptC ps) → Calls Tryz.prog (valN k) #[.agg x.cells.toArray, .slice ao ps.length cap] W fun e w' => e = .returned (valR x ps) ∧ W.grownBy w' none) := fun hx W CW => val_any x ps k h1 h2 hk ha hf1 hf3 hx hv ao cap W CW
 have HCP : Hid (CV (((w.alloc (.cells (ruleC R k).toArray 77)).alloc (.cells x.cells.toArray 43)).alloc (.cells pt0C.toArray 58)) ao (flat3 ptC ps)) := C.keptNone h6
 have HR0 : Hid ((ruleC R k).toArray[1]? = some (.int .i64 (if truthG x.kind = true then 0 else 1)) ∧ (ruleC R k).toArray[6]? = some (.func (.func (valN k)) #[] #[])) := ⟨by rw [hk, truth_nat]; rfl, rfl⟩
 have HZ : Hid ((Tryz.prog.info? 43).map (·.size) = some x.cells.toArray.size) := ng_size x
 obtain ⟨E, hE⟩ : ∃ E, joinG x ps = E := ⟨_, rfl⟩
 rw [hE]
 have HE : Hid (joinG x ps = E) := hE
 have HD : Hid (w.heap.size ≤ w.heap.size + 1 + 1) := by show w.heap.size ≤ _; omega
 obtain ⟨it, hit⟩ : ∃ it : Int, (if truthG x.kind = true then 0 else 1) = it := ⟨_, rfl⟩
 have HIT : Hid ((if truthG x.kind = true then (0 : Int) else 1) = it) := hit
 rw [hit] at HR0
 clear C hE hit hf hf1 hf3 hv
 generalize valN k = vn at *
 obtain ⟨rs, hrs⟩ : ∃ rs, (ruleC R k).toArray = rs := ⟨_, rfl⟩
 obtain ⟨X, hX⟩ : ∃ X, x.cells.toArray = X := ⟨_, rfl⟩
 rw [hrs] at h3 h4 h5 h6 HBR HCP HR0 ⊢
 rw [hX] at h3 h4 h5 h6 HBX HCV HCP HZ ⊢
 obtain ⟨pl, hpl⟩ : ∃ pl, ps.length = pl := ⟨_, rfl⟩
 have HPL : Hid (ps.length = pl) := hpl
 have hplm : Hid (pl ≤ 2) := by show pl ≤ 2; omega
 rw [hpl] at HCV ⊢
 clear hrs hX hk hin h1 h2 ha hpl hple
 go_enter Tryz.func79, Tryz.ntmps79
 go_upto_region 1 with fail
 rw [show (#[.int .i64 0, .bool false, .int .u32 0] : Array Value) = pt0C.toArray from rfl]
 generalize ((w.alloc (.cells rs 77)).alloc (.cells X 43)).alloc (.cells pt0C.toArray 58) = w2 at *
 obtain ⟨D, hD⟩ : ∃ D, w.heap.size + 1 + 1 = D := ⟨_, rfl⟩
 rw [hD] at h5 HD ⊢
 generalize w.heap.size + 1 = B at h4 ⊢
 generalize hwA : w.heap.size = A at h3 ⊢
 have HB0 : Hid (VAt w2 A 77 rs ∧ VAt w2 B 43 X ∧ VAt w2 D 58 pt0C.toArray) := ⟨h3, h4, h5⟩
 have HG2 : Hid (w.grownBy w2 none) := h6
 clear h3 h4 h5 h6 HBR HBX hD hwA
 go_wp2
 go_loopw [13] (fun i wr => ∃ j : Nat, j ≤ pl ∧ i = .int .i64 j ∧ Hid (∀ p ∈ ps.take j, p.fixed = true) ∧ w2.grownBy wr none) (fun i _ => pl - (intOf i).toNat)
 case atStart => exact ⟨0, Nat.zero_le _, rfl, (fun p hp => by cases hp), World.grownBy.refl _ _⟩
 case round =>
  obtain ⟨j, hj, rfl, HA, G⟩ := hrel
  by_cases hlt : j < pl
  ·have hjp : j < ps.length := by rw [HPL.out]; exact hlt
   obtain ⟨b, of, rfl, hpc⟩ := (HCP.out.keptNone G).pts ptC_len hjp
   have HR : Hid (wr.rangeAt b (of + j * 3) (ptC ps[j])) := hpc j hjp
   have HSZ : Hid _ := part_size ps[j]
   have HP1 : Hid ((ptC ps[j]).toArray[1]? = some (.bool ps[j].fixed)) := rfl
   have HTK : Hid (ps.take (j + 1) = ps.take j ++ [ps[j]]) := List.take_succ_eq_append_getElem hjp
   have HME : Hid (ps[j] ∈ ps) := List.getElem_mem hjp
   have hl : (j : Int) < (pl : Int) := by omega
   have z0 : (0 : Int) ≤ (j : Int) := by omega
   have w3 : IntKind.i64.wrap ((j : Int) + 1) = (j : Int) + 1 := by rw [IntKind.wrap_i64]; have := hplm.out; omega
   have K2 := World.grownBy_alloc wr (.cells (ptC ps[j]).toArray 58) none
   have V2 := VAt.alloc wr 58 (ptC ps[j]).toArray
   clear hpc
   generalize ptC ps[j] = pc at *
   go_upto_region 4 with (first | refine wpList_load_mid rfl 58 (.tmp 15) rfl b (of + j * 3) (by simp [Act.eval]) pc _ HR.out Tryz.underlying58 rfl HSZ.out.1 ?_ | refine wpList_store_row rfl 58 (.tmp 8) (.tmp 16) rfl wr.heap.size pc.toArray rfl rfl 58 _ (heap_alloc_new wr _) HSZ.out.2.1 HSZ.out.2.2.1 HSZ.out.2.2.2 ?_)
   rw [World.setRow_alloc_new]
   have G2 := grown_trans G K2
   generalize wr.alloc (.cells pc.toArray 58) = w4 at *
   generalize wr.heap.size = F at *
   have d1 : w4.cell? ⟨F, 1, none⟩ = some (.bool ps[j].fixed) := by rw [V2.cell 1]; exact HP1.out
   clear HR HP1 HSZ V2 K2 G
   cases hfx : ps[j].fixed with
   | false =>
    rw [hfx] at d1
    have HF : Hid (E = ⟨truthG x.kind, false, 0⟩) := by
     show E = _
     rw [← HE.out, joinG, if_neg (not_all_fixed HME.out hfx)]
    have c1 : w4.cell? ⟨A, 1, none⟩ = some (.int .i64 it) := by rw [(HB0.out.1.kept G2).cell 1]; exact HR0.out.1
    have VD := HB0.out.2.2.kept G2
    have HVD : Hid (VAt w4 D 58 pt0C.toArray) := VD
    have HGF : Hid (w.grownBy (w4.setRow D #[.int .i64 it, .bool false, .int .u32 0]) none) := vgrown_setRow (grown_trans HG2.out G2) D _ (.inr HD.out)
    have HZZ : Hid ((Tryz.prog.info? 58).map (·.size) = some (#[.int .i64 it, .bool false, .int .u32 0] : Array Value).size ∧ pt0C.toArray.size = (#[.int .i64 it, .bool false, .int .u32 0] : Array Value).size ∧ (#[.int .i64 it, .bool false, .int .u32 0] : Array Value).all (·.oneCell') = true) := ⟨by kernel_rfl, rfl, by simp [Value.oneCell']⟩
    clear hfx HA
    go_wp2_with (refine wpList_store_row rfl 58 (.tmp 6) (.tmp 22) rfl D #[.int .i64 it, .bool false, .int .u32 0] rfl rfl 58 _ VD HZZ.out.1 HZZ.out.2.1 HZZ.out.2.2 ?_)
    refine bodyPost_ret (results_cell_row rfl _ _ D 58 _ (0, 0) _ rfl (HVD.out.setRow _) Tryz.underlying58 rfl HZZ.out.1) rfl ?_
    refine ⟨?_, HGF.out⟩
    rw [HF.out, ptC, ← HIT.out]
    rfl
   | true =>
    rw [hfx] at d1
    have HA2 : Hid (∀ p ∈ ps.take (j + 1), p.fixed = true) := fun p hp => by
     rw [HTK.out] at hp
     rcases List.mem_append.1 hp with hp | hp
     ·exact HA.out p hp
     ·rw [List.mem_singleton.1 hp]; exact hfx
    clear hfx HA
    go_wp2
    go_roundw
    case rel => exact ⟨j + 1, by omega, by go_num, HA2, G2⟩
    case measure => simp [intOf]; omega
  ·have HAF : Hid (ps.all (·.fixed) = true) := List.all_eq_true.2 (fun p hp => HA.out p (by rw [List.take_of_length_le (by rw [HPL.out]; omega)]; exact hp))
   have LB := HB0.out.2.1.kept G
   have c6 : wr.cell? ⟨A, 6, none⟩ = some (.func (.func vn) #[] #[]) := by rw [(HB0.out.1.kept G).cell 6]; exact HR0.out.2
   have CX := HCV.out HAF.out wr (HCP.out.keptNone G)
   have hjj : ¬ (j : Int) < (pl : Int) := by omega
   have HEV : Hid (∃ (v : Nat) (b : Bool), valR x ps = .tuple #[.int .u32 (v : Int), .bool b] ∧ E = ⟨truthG x.kind, b, v⟩) := by
    have h := HE.out
    rw [joinG, if_pos HAF.out] at h
    unfold valR
    cases hvv : valG x ps with
    | none => rw [hvv] at h; exact ⟨0, false, rfl, h.symm⟩
    | some v => rw [hvv] at h; exact ⟨v, true, rfl, h.symm⟩
   obtain ⟨v, fb, hv1, hv2⟩ := HEV.out
   have HV2 : Hid (E = ⟨truthG x.kind, fb, v⟩) := hv2
   rw [hv1] at CX
   clear HA HEV hv1 hv2 HCV
   go_wp2_with (first | refine wpList_load_row rfl 43 (.tmp 4) rfl B rfl 43 X (0, 0) _ LB Tryz.underlying43 rfl HZ.out ?_ | (go_at_fn vn; refine CX.mono ?_; rintro e w6 ⟨rfl, K6⟩; have G6 := grown_trans G K6; have VD := HB0.out.2.2.kept G6; have c1 : w6.cell? ⟨A, 1, none⟩ = some (.int .i64 it) := (by rw [(HB0.out.1.kept G6).cell 1]; exact HR0.out.1); have HGF : Hid (w.grownBy (w6.setRow D #[.int .i64 it, .bool fb, .int .u32 (v : Int)]) none) := vgrown_setRow (grown_trans HG2.out G6) D _ (.inr HD.out); have HZZ : Hid ((Tryz.prog.info? 58).map (·.size) = some (#[.int .i64 it, .bool fb, .int .u32 (v : Int)] : Array Value).size ∧ pt0C.toArray.size = (#[.int .i64 it, .bool fb, .int .u32 (v : Int)] : Array Value).size ∧ (#[.int .i64 it, .bool fb, .int .u32 (v : Int)] : Array Value).all (·.oneCell') = true) := ⟨(by kernel_rfl), rfl, (by simp [Value.oneCell'])⟩; clear K6 G LB c6 CX) | refine wpList_store_row rfl 58 (.tmp 6) (.tmp 36) rfl D #[.int .i64 it, .bool fb, .int .u32 (v : Int)] rfl rfl 58 _ VD HZZ.out.1 HZZ.out.2.1 HZZ.out.2.2 ?_)
   refine bodyPost_ret (results_cell_row rfl _ _ D 58 _ (0, 0) _ rfl (VD.setRow _) Tryz.underlying58 rfl HZZ.out.1) rfl ?_
   refine ⟨?_, HGF.out⟩
   rw [HV2.out, ptC, ← HIT.out]
theorem flat3_drop {c : Pt → List Value} (hc : ∀ p, (c p).length = 3) : ∀ (xs : List Pt) (n : Nat), (flat3 c xs).drop (n * 3) = flat3 c (xs.drop n)
 | [], n => by simp [flat3]
 | x :: xs, 0 => by simp
 | x :: xs, n + 1 => by
  rw [flat3_cons, List.drop_succ_cons, show (n + 1) * 3 = 3 + n * 3 by omega, ← List.drop_drop, List.drop_left' (hc x), flat3_drop hc xs n]
theorem flat3_take {c : Pt → List Value} (hc : ∀ p, (c p).length = 3) : ∀ (xs : List Pt) (n : Nat), (flat3 c xs).take (n * 3) = flat3 c (xs.take n)
 | [], n => by simp [flat3]
 | x :: xs, 0 => by simp [flat3]
 | x :: xs, n + 1 => by
  rw [flat3_cons, List.take_succ_cons, flat3_cons, show (n + 1) * 3 = (c x).length + n * 3 by rw [hc]; omega, List.take_append, List.take_of_length_le (by omega), Nat.add_sub_cancel_left, flat3_take hc xs n]
theorem cv_drop {c : Pt → List Value} (hc : ∀ p, (c p).length = 3) {w : World} {g : Nat} {st : List Pt} (h : CV w (some ⟨g, 0, none⟩) (flat3 c st)) (f : Nat) (ao : Option Addr) (ha : ao = some ⟨g, f * 3, none⟩ ∨ (st.length ≤ f ∧ ao ≠ none)) : CV w ao (flat3 c (st.drop f)) := by
 rcases ha with rfl | ⟨h1, h2⟩
 ·refine ⟨fun e => (by cases e), fun ad had i hi => ?_⟩
  cases had
  have hl := flat3_len hc st
  have hl2 := flat3_len hc (st.drop f)
  rw [List.length_drop] at hl2
  have := h.2 _ rfl (f * 3 + i) (by omega)
  rw [Addr.add_lit, Nat.zero_add] at this
  rw [Addr.add_lit, this]
  congr 1
  have e := flat3_drop hc st f
  simp only [← e, List.getElem_drop]
 ·rw [List.drop_eq_nil_of_le h1]
  exact ⟨fun e => absurd e h2, fun ad had i hi => by simp [flat3] at hi⟩
theorem own_vatT {w : World} {base e size n g t : Nat} {v : Value} {vs : List Value} {cs : Array Value} (h : w.ownsRow base e size v n vs) (A : VAt w g t cs) (he : t ≠ e) : ¬ v.ownBlock = some g := fun hx => by
 rcases h.2 with ⟨rfl, -⟩ | ⟨g', cap, cur, rfl, -, hg, -⟩
 ·cases hx
 ·cases hx
  unfold VAt at A
  rw [hg] at A
  injection A with A
  injection A with _ A
  exact he A.symm
def walkR (x : Except (Nat × Int) (List Pt)) (v : Value) (e : Ending) : Prop := match x with
 | .error (k, er) => e = .returned (.tuple #[.slice none 0 0, .int .i64 (k : Int), .int .i64 er])
 | .ok _ => e = .returned (.tuple #[v, .int .i64 0, .int .i64 0])
def walkL (x : Except (Nat × Int) (List Pt)) : List Pt := match x with
 | .error _ => []
 | .ok st => st
abbrev POwns (w : World) (base : Nat) (v : Value) (st : List Pt) : Prop := w.ownsRow base 58 3 v st.length (flat3 ptC st)
theorem info_part : (Tryz.prog.info? 58).map (fun i => (i.zero, i.size, i.bytes)) = some (some (.agg pt0C.toArray), 3, 16) := by kernel_rfl
theorem lit_part (p : Pt) (W : World) : (Instr.buildSlice 54 1 #[(0, .agg (ptC p).toArray)]).run Tryz.prog W = .ok (.slice (some ⟨W.heap.size, 0, none⟩) 1 1) (W.alloc (.cells (ptC p).toArray 58)) := by kernel_rfl
theorem stepG_none {x : Ng} {st : List Pt} (h : arG x.kind = none) : stepG x st = .error 120 := by rw [stepG, h]
theorem stepG_few {x : Ng} {st : List Pt} {a : Nat} (h : arG x.kind = some a) (hl : st.length < a) : stepG x st = .error 120 := by
 rw [stepG, h]
 simp only
 rw [if_pos hl]
theorem stepG_bad {x : Ng} {st : List Pt} {a : Nat} (h : arG x.kind = some a) (hl : ¬ st.length < a) (hf : faultG x (st.drop (st.length - a)) ≠ 0) : stepG x st = .error (faultG x (st.drop (st.length - a))) := by
 rw [stepG, h]
 simp only
 rw [if_neg hl, if_pos hf]
theorem stepG_good {x : Ng} {st : List Pt} {a : Nat} (h : arG x.kind = some a) (hl : ¬ st.length < a) (hf : faultG x (st.drop (st.length - a)) = 0) : stepG x st = .ok (st.take (st.length - a) ++ [joinG x (st.drop (st.length - a))]) := by
 rw [stepG, h]
 simp only
 rw [if_neg hl, if_neg (fun e => e hf)]
theorem walkG_next {t : List Ng} {st st' : List Pt} {k : Nat} (hk : k < t.length) (h : stepG t[k] st = .ok st') : walkG st k (t.drop k) = walkG st' (k + 1) (t.drop (k + 1)) := by
 rw [List.drop_eq_getElem_cons hk, walkG, h]
theorem walkG_stop {t : List Ng} {st : List Pt} {k : Nat} {e : Int} (hk : k < t.length) (h : stepG t[k] st = .error e) : walkG st k (t.drop k) = .error (k, e) := by
 rw [List.drop_eq_getElem_cons hk, walkG, h]
set_option maxHeartbeats 8000000 in
theorem walk_any (ao : Option Addr) (cap : Nat) (t : List Ng) (R : RT) (w : World) (T : TabT R w) (C : CV w ao (flatG t)) (hm : t.length * 72 ≤ 140737488355328) (hn : ∀ x ∈ t, x.n ≤ 4294967295) :
  Calls Tryz.prog 29 #[.slice (some ⟨R.g, 0, none⟩) 17 17, .slice ao t.length cap] w fun e w' => ∃ v, walkR (walkG [] 0 t) v e ∧ POwns w' w.heap.size v (walkL (walkG [] 0 t)) ∧ w.grownBy w' none := by
 have HC : Hid (CV w ao (flatG t)) := C
 have HT : Hid (TabT R w) := T
 have HN : Hid (∀ x ∈ t, x.n ≤ 4294967295) := hn
 obtain ⟨i0, hi0, hz0, hz1, hz2⟩ := info_parts info_part
 have HI : Hid _ := hi0
 have HI1 : Hid _ := hz0
 have HI2 : Hid _ := hz1
 have HI3 : Hid _ := hz2
 clear C T hn hi0 hz0 hz1 hz2
 go_enter Tryz.func29, Tryz.ntmps29
 go_wp2
 go_loopw [7, 17] (fun v i wr => ∃ (k : Nat) (st : List Pt), k ≤ t.length ∧ st.length ≤ k ∧ i = .int .i64 k ∧ Hid (POwns wr w.heap.size v st ∧ (∀ p ∈ st, p.val ≤ 4294967295) ∧ walkG [] 0 t = walkG st k (t.drop k) ∧ w.grownBy wr none)) (fun _ i _ => t.length - (intOf i).toNat)
 case atStart => exact ⟨0, [], Nat.zero_le _, Nat.le_refl _, rfl, World.ownsRow_nil _ _ _ _, (fun p hp => by cases hp), rfl, World.grownBy.refl _ _⟩
 case round =>
  obtain ⟨k, st, hk, hst, rfl, HI4⟩ := hrel
  by_cases hlt : k < t.length
  ·obtain ⟨O, hv, hw, G⟩ := HI4.out
   obtain ⟨b, o, rfl, hc⟩ := (HC.out.keptNone G).ngs hlt
   have HR : Hid (wr.rangeAt b (o + k * 24) t[k].cells) := hc k hlt
   have hxn := HN.out t[k] (List.getElem_mem hlt)
   have HZ : Hid ((Tryz.prog.info? 43).map (·.size) = some t[k].cells.length ∧ (Tryz.prog.info? 43).map (·.size) = some t[k].cells.toArray.size ∧ 24 = t[k].cells.toArray.size ∧ t[k].cells.toArray.all (·.oneCell') = true) := ⟨ng_len _, ng_size _, rfl, ng_all _⟩
   have HNX : Hid (∀ st', stepG t[k] st = .ok st' → walkG [] 0 t = walkG st' (k + 1) (t.drop (k + 1))) := fun st' h => by rw [hw]; exact walkG_next hlt h
   have HST : Hid (∀ e, stepG t[k] st = .error e → walkG [] 0 t = .error (k, e)) := fun e h => by rw [hw]; exact walkG_stop hlt h
   have K2 := World.grownBy_alloc wr (.cells t[k].cells.toArray 43) none
   have V2 := VAt.alloc wr 43 t[k].cells.toArray
   have c0 : (wr.alloc (.cells t[k].cells.toArray 43)).cell? ⟨wr.heap.size, 0, none⟩ = some (.int .i64 t[k].kind) := (NB.alloc wr t[k]).kind
   have HO2 : Hid (POwns (wr.alloc (.cells t[k].cells.toArray 43)) w.heap.size u7 st) := owns_keptNone O K2
   have G2 := grown_trans G K2
   have HV : Hid (∀ p ∈ st, p.val ≤ 4294967295) := hv
   obtain ⟨aL, cL, rfl, -, hb1, hb2, -, -, -⟩ := cv_of_row O
   have hl : (k : Int) < (t.length : Int) := by omega
   have z0 : (0 : Int) ≤ (k : Int) := by omega
   have w3 : IntKind.i64.wrap ((k : Int) + 1) = (k : Int) + 1 := by rw [IntKind.wrap_i64]; omega
   have hcL : cL ≤ 9223372036854775807 := by unfold maxLen at hb2; omega
   clear hc hv hw G O HI4 hb2
   obtain ⟨x, hx⟩ : ∃ x, t[k] = x := ⟨_, rfl⟩
   rw [hx] at HR hxn HZ HNX HST K2 V2 c0 HO2 G2
   obtain ⟨cs, hcs⟩ : ∃ cs, x.cells = cs := ⟨_, rfl⟩
   have HCS : Hid (x.cells = cs) := hcs
   rw [hcs] at HR HZ K2 V2 c0 HO2 G2
   clear hx hcs
   go_upto_region 5 with (first | refine wpList_load_mid rfl 43 (.tmp 20) rfl b (o + k * 24) (by simp [Act.eval]) cs _ HR.out Tryz.underlying43 rfl HZ.out.1 ?_ | refine wpList_store_row rfl 43 (.tmp 9) (.tmp 21) rfl wr.heap.size cs.toArray rfl rfl 43 _ (heap_alloc_new wr _) HZ.out.2.1 HZ.out.2.2.1 HZ.out.2.2.2 ?_)
   rw [World.setRow_alloc_new]
   generalize wr.alloc (.cells cs.toArray 43) = w2 at *
   generalize wr.heap.size = N at *
   clear HR K2
   cases ha : arG x.kind with
   | none =>
    have CR := ruleOf_no R x.kind ha
    have HF : Hid (walkG [] 0 t = .error (k, 120)) := HST.out _ (stepG_none ha)
    generalize x.kind = xk at *
    clear ha HNX HST HV
    go_wp2_with fail
    refine (CR _).mono ?_
    rintro e w4 ⟨rfl, K4⟩
    have K5 := World.grownBy_alloc w4 (.cells rule0.toArray 77) none
    have V5 := VAt.alloc w4 77 rule0.toArray
    clear CR
    go_upto_region 6 with (refine wpList_store_row rfl 77 (.tmp 10) (.tmp 27) rfl w4.heap.size rule0.toArray rfl rfl 77 _ (heap_alloc_new w4 _) size_rule rfl rule0_all ?_)
    rw [World.setRow_alloc_new]
    have G5 := grown_trans (grown_trans G2 K4) K5
    generalize w4.alloc (.cells rule0.toArray 77) = w5 at *
    generalize w4.heap.size = P at *
    have d0 : w5.cell? ⟨P, 0, none⟩ = some (.slice none 0 0) := V5.cell 0
    clear K4 K5 V5 G2 c0 V2 HO2
    have q1 : IntKind.i64.wrap (st.length : Int) = (st.length : Int) := by rw [IntKind.wrap_i64]; omega
    go_wp2
    go_ret3
    refine ⟨.slice none 0 0, ?_, ?_, G5⟩
    ·rw [HF.out]; rfl
    ·rw [HF.out]; exact World.ownsRow_nil _ _ _ _
   | some a =>
    have hin := arG_in ha
    obtain ⟨kn, hkn⟩ : ∃ kn : Nat, x.kind = kn := Int.eq_ofNat_of_zero_le (by omega)
    have h1 : 1 ≤ kn := by omega
    have h2 : kn ≤ 16 := by omega
    have CR := ruleOf_ok R kn h1 h2 w2 (HT.out.kept G2)
    obtain ⟨tao, tcap, htk, -⟩ := takes_cv HT.out (hkn ▸ ha)
    have HRL : Hid ((Tryz.prog.info? 77).map (·.size) = some (ruleC R kn).toArray.size ∧ 7 = (ruleC R kn).toArray.size ∧ (ruleC R kn).toArray.all (·.oneCell') = true ∧ (ruleC R kn).toArray[0]? = some (.slice tao a tcap)) := ⟨size_rule, rfl, ruleC_all HT.out h1 h2, by rw [← htk]; rfl⟩
    have HFA : Hid (∀ (ps : List Pt), ps.length = a → ∀ (ao : Option Addr) (cap : Nat) (W : World), TabT R W → CV W ao (flat3 ptC ps) → Calls Tryz.prog 78 #[.agg (ruleC R kn).toArray, .agg cs.toArray, .slice ao a cap] W fun e w' => e = .returned (.int .i64 (faultG x ps)) ∧ W.grownBy w' none) := fun ps hps ao cap W TW CW => by subst hps; rw [← HCS.out]; exact tfault_any x ps kn hkn ha R ao cap W TW CW
    have HJA : Hid (∀ (ps : List Pt), ps.length = a → faultG x ps = 0 → (∀ p ∈ ps, p.val ≤ 4294967295) → ∀ (ao : Option Addr) (cap : Nat) (W : World), CV W ao (flat3 ptC ps) → Calls Tryz.prog 79 #[.agg (ruleC R kn).toArray, .agg cs.toArray, .slice ao a cap] W fun e w' => e = .returned (.agg (ptC (joinG x ps)).toArray) ∧ W.grownBy w' none) := fun ps hps hf hv ao cap W CW => by subst hps; rw [← HCS.out]; exact join_any x ps kn hkn ha hf hv R ao cap W CW
    have HHA : Hid (arG x.kind = some a) := ha
    have hale := arG_le ha
    rw [hkn] at c0
    obtain ⟨rs, hrs⟩ : ∃ rs, (ruleC R kn).toArray = rs := ⟨_, rfl⟩
    rw [hrs] at CR HRL HFA HJA
    clear hrs hkn hin h1 h2 ha htk
    go_wp2_with fail
    refine CR.mono ?_
    rintro e w4 ⟨rfl, K4⟩
    have K5 := World.grownBy_alloc w4 (.cells rs 77) none
    have V5 := VAt.alloc w4 77 rs
    have HN5 : Hid (VAt (w4.alloc (.cells rs 77)) N 43 cs.toArray) := (V2.kept K4).kept K5
    have HO5 : Hid (POwns (w4.alloc (.cells rs 77)) w.heap.size (.slice aL st.length cL) st) := owns_keptNone (owns_keptNone HO2.out K4) K5
    have G5 := grown_trans (grown_trans G2 K4) K5
    clear CR V2 HO2 c0 K4 G2
    go_upto_region 6 with (refine wpList_store_row rfl 77 (.tmp 10) (.tmp 27) rfl w4.heap.size rs rfl rfl 77 _ (heap_alloc_new w4 _) HRL.out.1 HRL.out.2.1 HRL.out.2.2.1 ?_)
    rw [World.setRow_alloc_new]
    clear K5
    generalize w4.alloc (.cells rs 77) = w5 at *
    generalize w4.heap.size = P at *
    have d0 : w5.cell? ⟨P, 0, none⟩ = some (.slice tao a tcap) := by rw [V5.cell 0]; exact HRL.out.2.2.2
    have HP5 : Hid (VAt w5 P 77 rs) := V5
    clear V5
    by_cases hfew : st.length < a
    ·have HF : Hid (walkG [] 0 t = .error (k, 120)) := HST.out _ (stepG_few HHA.out hfew)
     have q1 : IntKind.i64.wrap ((st.length : Int) - (a : Int)) = (st.length : Int) - (a : Int) := by rw [IntKind.wrap_i64]; omega
     have q2 : (st.length : Int) - (a : Int) < 0 := by omega
     clear HNX HST HV HFA HJA hfew
     go_wp2
     go_ret3
     refine ⟨.slice none 0 0, ?_, ?_, G5⟩
     ·rw [HF.out]; rfl
     ·rw [HF.out]; exact World.ownsRow_nil _ _ _ _
    ·obtain ⟨f, hf⟩ : ∃ f, f = st.length - a := ⟨_, rfl⟩
     have hfa : st.length = f + a := by omega
     have q1 : IntKind.i64.wrap ((st.length : Int) - (a : Int)) = (f : Int) := by rw [IntKind.wrap_i64]; omega
     have q2 : ¬ (f : Int) < 0 := by omega
     have HFN : Hid (¬ st.length < a) := hfew
     have HFE : Hid (f = st.length - a) := hf
     have hle : (f : Int) ≤ (st.length : Int) := by omega
     have HFL : Hid (st.length = f + a) := hfa
     clear hfew hf hfa
     have HPS : Hid ((st.drop f).length = a) := by show (st.drop f).length = a; rw [List.length_drop]; have := HFL.out; omega
     have HPV : Hid (∀ p ∈ st.drop f, p.val ≤ 4294967295) := fun p hp => HV.out p (List.mem_of_mem_drop hp)
     have HNX2 : Hid (faultG x (st.drop f) = 0 → walkG [] 0 t = walkG (st.take f ++ [joinG x (st.drop f)]) (k + 1) (t.drop (k + 1))) := fun h0 => by
      refine HNX.out _ ?_
      have := stepG_good HHA.out HFN.out (by rw [← HFE.out]; exact h0)
      rw [← HFE.out] at this
      exact this
     have HST2 : Hid (faultG x (st.drop f) ≠ 0 → walkG [] 0 t = .error (k, faultG x (st.drop f))) := fun h0 => by
      refine HST.out _ ?_
      have := stepG_bad HHA.out HFN.out (by rw [← HFE.out]; exact h0)
      rw [← HFE.out] at this
      exact this
     have HV2 : Hid (∀ p ∈ st.take f ++ [joinG x (st.drop f)], p.val ≤ 4294967295) := fun p hp => by
      rcases List.mem_append.1 hp with hp | hp
      ·exact HV.out p (List.mem_of_mem_take hp)
      ·rw [List.mem_singleton.1 hp]; exact joinG_le hxn HPV.out
     have HLN : Hid ((st.take f ++ [joinG x (st.drop f)]).length = f + 1) := by show List.length _ = _; rw [List.length_append, List.length_take, List.length_singleton]; have := HFL.out; omega
     have HCVP := cv_of_row HO5.out
     rcases HO5.out.2 with ⟨hv0, hn0⟩ | ⟨g, cap', cur, hv0, -⟩
     ·simp only [Value.slice.injEq] at hv0
      obtain ⟨rfl, -, rfl⟩ := hv0
      have hst0 : st = [] := List.eq_nil_of_length_eq_zero hn0
      subst hst0
      obtain rfl : f = 0 := by have := HFL.out; simp at this; omega
      obtain rfl : a = 0 := by have := HFL.out; simp at this; omega
      have HLO : Hid (∀ W, POwns W w.heap.size (.slice none ([] : List Pt).length 0) [] → W.ownsRow w.heap.size 58 3 (.slice none 0 0) 0 (flat3 ptC (([] : List Pt).take 0))) := fun W h => World.ownsRow_nil _ _ _ _
      have HPC : Hid (∀ W, POwns W w.heap.size (.slice none ([] : List Pt).length 0) [] → CV W none (flat3 ptC (([] : List Pt).drop 0))) := fun W h => ⟨fun _ => rfl, fun ad had => by cases had⟩
      have HOB : Hid (∀ x, (Value.slice none 0 0).ownBlock = some x → w.heap.size ≤ x) := fun x hx => by cases hx
      have HOK : Hid (∀ (W : World) (P t' : Nat) (cs : Array Value), POwns W w.heap.size (.slice none ([] : List Pt).length 0) [] → VAt W P t' cs → t' ≠ 58 → (Value.slice none 0 0).ownBlock ≠ some P) := fun W P t' cs _ _ _ e => by cases e
      clear HCVP hn0
      clear q1 q2 hle
      have q1 : IntKind.i64.wrap 0 = 0 := rfl
      go_upto_region 10 with fail
      have TW := HT.out.kept G5
      have HG5 : Hid (w.grownBy w5 none) := G5
      have LP := HP5.out
      have LN := HN5.out
      have HZN : Hid ((Tryz.prog.info? 43).map (·.size) = some cs.toArray.size ∧ (Tryz.prog.info? 77).map (·.size) = some rs.size) := ⟨HZ.out.2.1, HRL.out.1⟩
      have CF := HFA.out _ HPS.out none (0) w5 TW (HPC.out w5 HO5.out)
      clear TW G5 HFA HZ HRL d0
      go_wp2_with (first | refine wpList_load_row rfl 77 (.tmp 10) rfl P rfl 77 rs (0, 0) _ LP Tryz.underlying77 rfl HZN.out.2 ?_ | refine wpList_load_row rfl 43 (.tmp 9) rfl N rfl 43 cs.toArray (0, 0) _ LN Tryz.underlying43 rfl HZN.out.1 ?_)
      refine CF.mono ?_
      rintro e w6 ⟨rfl, K6⟩
      have HP6 : Hid (VAt w6.drew P 77 rs ∧ VAt w6.drew N 43 cs.toArray) := ⟨(HP5.out.kept K6).kept (grown_drewN w6 1 none), (HN5.out.kept K6).kept (grown_drewN w6 1 none)⟩
      have HO6 : Hid (POwns w6.drew w.heap.size (.slice none ([] : List Pt).length 0) ([] : List Pt)) := owns_keptNone (owns_keptNone HO5.out K6) (grown_drewN w6 1 none)
      have G6 := grown_trans HG5.out K6
      have HG6 : Hid (w.grownBy w6.drew none) := grown_trans G6 (grown_drewN w6 1 none)
      clear CF LP LN HP5 HN5 HO5 K6 HG5
      by_cases hfz : faultG x (([] : List Pt).drop 0) = 0
      ·rw [hfz]
       have HWN := HNX2.out hfz
       have HHW : Hid _ := HWN
       have HJ : Hid _ := HJA.out _ HPS.out hfz HPV.out none (0)
       clear hfz HWN HNX2 HST2 HJA HNX HST G6
       go_upto_region 13 with fail
       refine wp_region_held_drew (S := fun W => VAt W P 77 rs ∧ VAt W N 43 cs.toArray) (by kernel_rfl) HP6.out (fun hHeld => ?_)
       refine wpT (i := 0) (v := .slice none ([] : List Pt).length 0) rfl (Or.inl ⟨by rfl, fun W hW => ?_⟩) hHeld ?_
       ·clear hW
        go_simp
       try simp only [Act.put, a0, a1, a3, a4, a5]
       refine wpT (i := 1) (v := .int .i64 0) rfl (Or.inl ⟨by rfl, fun W hW => ?_⟩) hHeld ?_
       ·clear hW
        go_simp
       try simp only [Act.put, a0, a1, a2, a3, a4, a5]
       refine wpT (i := 2) (v := .slice none 0 0) rfl (Or.inl ⟨by rfl, fun W hW => ?_⟩) hHeld ?_
       ·clear hW
        go_simp
       try simp only [Act.put, a0, a1, a2, a3, a4, a5]
       refine wpT (i := 3) (v := .agg rs) rfl (yieldsIf_load_row (by rfl) _ _ rfl P rfl 77 rs _ (fun W hW => hW.1) Tryz.underlying77 rfl HZN.out.2) hHeld ?_
       try simp only [Act.put, a0, a1, a2, a3, a4, a5]
       refine wpT (i := 4) (v := .agg cs.toArray) rfl (yieldsIf_load_row (by rfl) _ _ rfl N rfl 43 cs.toArray _ (fun W hW => hW.2) Tryz.underlying43 rfl HZN.out.1) hHeld ?_
       try simp only [Act.put, a0, a1, a2, a3, a4, a5]
       refine wpT (i := 5) (v := .slice none 0 (0)) rfl (Or.inl ⟨by rfl, fun W hW => ?_⟩) hHeld ?_
       ·clear hW
        go_simp
       try simp only [Act.put, a0, a1, a2, a3, a4, a5]
       refine wpR (rs := [6]) (AllReadyH.cons rfl (fun K hK => ?_) AllReadyH.nil)
       go_simp
       refine (HJ.out _ (HPC.out _ HO6.out)).mono ?_
       rintro e w7 ⟨rfl, K7⟩
       have O7 := owns_keptNone HO6.out K7
       have G7 := grown_trans HG6.out K7
       go_wp2_with fail
       refine hK.out _ _ ⟨hHeld.1.kept K7, hHeld.2.kept K7⟩ (fun hHeld => ?_)
       clear hK K K7 HO6 HG6 HJ
       try simp only [Act.put, a0, a1, a2, a3, a4, a5]
       refine wpR (rs := [7]) (AllReadyH.cons rfl (fun K hK => ?_) AllReadyH.nil)
       refine step_lit (by rfl) 54 1 _ (by rfl) _ (by kernel_rfl) (ptC (joinG x (([] : List Pt).drop 0))) 58 (lit_part _) ?_
       intro ad w8 C8 K8
       have O8 := owns_keptNone O7 K8
       have G8 := grown_trans G7 K8
       refine hK.out _ _ ⟨hHeld.1.kept K8, hHeld.2.kept K8⟩ (fun hHeld => ?_)
       clear hK K K8 O7 G7
       try simp only [Act.put, a0, a1, a2, a3, a4, a5]
       refine wpR (rs := [8]) (AllReadyH.cons rfl (fun K hK => ?_) AllReadyH.nil)
       refine step_append_own (by rfl) (.tmp 55) (.tmp 60) 54 (by rfl) 58 i0 _ 3 16 Tryz.underlying54 HI.out HI1.out HI2.out HI3.out rfl (by decide) w.heap.size (.slice none 0 0) 0 (flat3 ptC (([] : List Pt).take 0)) (by rfl) (HLO.out _ O8) ad 1 1 (ptC (joinG x (([] : List Pt).drop 0))) (by rfl) rfl C8 (ptC_one _) (by unfold maxLen; omega) (by omega) G8.size ?_
       intro v9 w9 O9 K9 B9
       have G9 := grown_trans_new G8 K9 HOB.out
       have HP9 : VAt w9 P 77 rs ∧ VAt w9 N 43 cs.toArray := ⟨hHeld.1.grown K9 (HOK.out _ _ _ _ O8 hHeld.1 (by decide)), hHeld.2.grown K9 (HOK.out _ _ _ _ O8 hHeld.2 (by decide))⟩
       have O10 : POwns w9 w.heap.size v9 (([] : List Pt).take 0 ++ [joinG x (([] : List Pt).drop 0)]) := by
        unfold POwns
        rw [HLN.out, flat3_append, flat3_one]
        exact O9
       have HFIN : Hid (POwns w9 w.heap.size v9 (([] : List Pt).take 0 ++ [joinG x (([] : List Pt).drop 0)]) ∧ (∀ p ∈ (([] : List Pt).take 0 ++ [joinG x (([] : List Pt).drop 0)]), p.val ≤ 4294967295) ∧ walkG [] 0 t = walkG (([] : List Pt).take 0 ++ [joinG x (([] : List Pt).drop 0)]) (k + 1) (t.drop (k + 1)) ∧ w.grownBy w9 none) := ⟨O10, HV2.out, HHW.out, G9⟩
       refine hK.out _ _ HP9 (fun hHeld => ?_)
       clear hK K O8 O9 O10 K9 B9 G8 G9 C8 HP9
       try simp only [Act.put, a0, a1, a2, a3, a4, a5]
       refine wpT (i := 9) (v := v9) rfl (Or.inl ⟨by rfl, fun W hW => ?_⟩) hHeld ?_
       ·clear hW
        go_simp
       try simp only [Act.put, a0, a1, a2, a3, a4, a5]
       refine wpAnyH_done (by kernel_rfl) ?_ _
       clear hHeld
       go_wp2
       go_roundw
       case rel => exact ⟨k + 1, _, by omega, by rw [HLN.out]; omega, by go_num, HFIN⟩
       case measure => simp [intOf]; omega
      ·have HF : Hid _ := HST2.out hfz
       have e1 : (faultG x (([] : List Pt).drop 0) != 0) = true := by rw [bne_iff_ne]; exact hfz
       clear hfz HNX2 HST2 HJA HNX HST HO6 HP6 HV2 HLO HPC HPS HPV
       generalize faultG x (([] : List Pt).drop 0) = fe at *
       go_wp2
       go_ret3
       refine ⟨.slice none 0 0, ?_, ?_, G6⟩
       ·rw [HF.out]; rfl
       ·rw [HF.out]; exact World.ownsRow_nil _ _ _ _
     ·simp only [Value.slice.injEq] at hv0
      obtain ⟨rfl, -, rfl⟩ := hv0
      have HSL : Hid (st.length - f = a) := by show _ - _ = _; have := HFL.out; omega
      have HLO : Hid (∀ W, POwns W w.heap.size (.slice (some ⟨g, 0, none⟩) st.length cL) st → W.ownsRow w.heap.size 58 3 (.slice (some ⟨g, 0, none⟩) f cL) f (flat3 ptC (st.take f))) := fun W h => by
       have := owns_take h (m := f) (by have := HFL.out; omega)
       rw [flat3_take ptC_len] at this
       exact this
      have HPC : Hid (∀ W, POwns W w.heap.size (.slice (some ⟨g, 0, none⟩) st.length cL) st → CV W (if cL = f then some ⟨g, 0, none⟩ else some ⟨g, f * 3, none⟩) (flat3 ptC (st.drop f))) := fun W h => by
       obtain ⟨ao', cap', e, C', -⟩ := cv_of_row h
       simp only [Value.slice.injEq] at e
       obtain ⟨rfl, -, rfl⟩ := e
       refine cv_drop ptC_len C' f _ ?_
       by_cases hcf : cL = f
       ·rw [if_pos hcf]
        exact .inr ⟨by omega, by simp⟩
       ·rw [if_neg hcf]
        exact .inl rfl
      have HOB : Hid (∀ x, (Value.slice (some ⟨g, 0, none⟩) f cL).ownBlock = some x → w.heap.size ≤ x) := fun x hx => by
       cases hx
       exact (HO5.out.lt g rfl).1
      have HOK : Hid (∀ (W : World) (P t' : Nat) (cs : Array Value), POwns W w.heap.size (.slice (some ⟨g, 0, none⟩) st.length cL) st → VAt W P t' cs → t' ≠ 58 → (Value.slice (some ⟨g, 0, none⟩) f cL).ownBlock ≠ some P) := fun W P t' cs h1 h2 h3 e => by
       cases e
       exact own_vatT h1 h2 h3 rfl
      obtain ⟨PA, hPA⟩ : ∃ PA, (if cL = f then some (⟨g, 0, none⟩ : Addr) else some ⟨g, f * 3, none⟩) = PA := ⟨_, rfl⟩
      rw [hPA] at HPC
      clear HCVP
      go_upto_region 10 with fail
      rw [HSL.out]
      have hcf : ¬ cL < f := by have := HFL.out; omega
      clear hPA
      have TW := HT.out.kept G5
      have HG5 : Hid (w.grownBy w5 none) := G5
      have LP := HP5.out
      have LN := HN5.out
      have HZN : Hid ((Tryz.prog.info? 43).map (·.size) = some cs.toArray.size ∧ (Tryz.prog.info? 77).map (·.size) = some rs.size) := ⟨HZ.out.2.1, HRL.out.1⟩
      have CF := HFA.out _ HPS.out PA (cL - f) w5 TW (HPC.out w5 HO5.out)
      clear TW G5 HFA HZ HRL d0
      go_wp2_with (first | refine wpList_load_row rfl 77 (.tmp 10) rfl P rfl 77 rs (0, 0) _ LP Tryz.underlying77 rfl HZN.out.2 ?_ | refine wpList_load_row rfl 43 (.tmp 9) rfl N rfl 43 cs.toArray (0, 0) _ LN Tryz.underlying43 rfl HZN.out.1 ?_)
      refine CF.mono ?_
      rintro e w6 ⟨rfl, K6⟩
      have HP6 : Hid (VAt w6.drew P 77 rs ∧ VAt w6.drew N 43 cs.toArray) := ⟨(HP5.out.kept K6).kept (grown_drewN w6 1 none), (HN5.out.kept K6).kept (grown_drewN w6 1 none)⟩
      have HO6 : Hid (POwns w6.drew w.heap.size (.slice (some ⟨g, 0, none⟩) st.length cL) st) := owns_keptNone (owns_keptNone HO5.out K6) (grown_drewN w6 1 none)
      have G6 := grown_trans HG5.out K6
      have HG6 : Hid (w.grownBy w6.drew none) := grown_trans G6 (grown_drewN w6 1 none)
      clear CF LP LN HP5 HN5 HO5 K6 HG5
      by_cases hfz : faultG x (st.drop f) = 0
      ·rw [hfz]
       have HWN := HNX2.out hfz
       have HHW : Hid _ := HWN
       have HJ : Hid _ := HJA.out _ HPS.out hfz HPV.out PA (cL - f)
       clear hfz HWN HNX2 HST2 HJA HNX HST G6
       go_upto_region 13 with fail
       refine wp_region_held_drew (S := fun W => VAt W P 77 rs ∧ VAt W N 43 cs.toArray) (by kernel_rfl) HP6.out (fun hHeld => ?_)
       refine wpT (i := 0) (v := .slice (some ⟨g, 0, none⟩) st.length cL) rfl (Or.inl ⟨by rfl, fun W hW => ?_⟩) hHeld ?_
       ·clear hW
        go_simp
       try simp only [Act.put, a0, a1, a3, a4, a5]
       refine wpT (i := 1) (v := .int .i64 (f : Int)) rfl (Or.inl ⟨by rfl, fun W hW => ?_⟩) hHeld ?_
       ·clear hW
        go_simp
       try simp only [Act.put, a0, a1, a2, a3, a4, a5]
       refine wpT (i := 2) (v := .slice (some ⟨g, 0, none⟩) f cL) rfl (Or.inl ⟨by rfl, fun W hW => ?_⟩) hHeld ?_
       ·clear hW
        go_simp
       try simp only [Act.put, a0, a1, a2, a3, a4, a5]
       refine wpT (i := 3) (v := .agg rs) rfl (yieldsIf_load_row (by rfl) _ _ rfl P rfl 77 rs _ (fun W hW => hW.1) Tryz.underlying77 rfl HZN.out.2) hHeld ?_
       try simp only [Act.put, a0, a1, a2, a3, a4, a5]
       refine wpT (i := 4) (v := .agg cs.toArray) rfl (yieldsIf_load_row (by rfl) _ _ rfl N rfl 43 cs.toArray _ (fun W hW => hW.2) Tryz.underlying43 rfl HZN.out.1) hHeld ?_
       try simp only [Act.put, a0, a1, a2, a3, a4, a5]
       refine wpT (i := 5) (v := .slice PA a (cL - f)) rfl (Or.inl ⟨by rfl, fun W hW => ?_⟩) hHeld ?_
       ·clear hW
        go_simp
       try simp only [Act.put, a0, a1, a2, a3, a4, a5]
       refine wpR (rs := [6]) (AllReadyH.cons rfl (fun K hK => ?_) AllReadyH.nil)
       go_simp
       refine (HJ.out _ (HPC.out _ HO6.out)).mono ?_
       rintro e w7 ⟨rfl, K7⟩
       have O7 := owns_keptNone HO6.out K7
       have G7 := grown_trans HG6.out K7
       go_wp2_with fail
       refine hK.out _ _ ⟨hHeld.1.kept K7, hHeld.2.kept K7⟩ (fun hHeld => ?_)
       clear hK K K7 HO6 HG6 HJ
       try simp only [Act.put, a0, a1, a2, a3, a4, a5]
       refine wpR (rs := [7]) (AllReadyH.cons rfl (fun K hK => ?_) AllReadyH.nil)
       refine step_lit (by rfl) 54 1 _ (by rfl) _ (by kernel_rfl) (ptC (joinG x (st.drop f))) 58 (lit_part _) ?_
       intro ad w8 C8 K8
       have O8 := owns_keptNone O7 K8
       have G8 := grown_trans G7 K8
       refine hK.out _ _ ⟨hHeld.1.kept K8, hHeld.2.kept K8⟩ (fun hHeld => ?_)
       clear hK K K8 O7 G7
       try simp only [Act.put, a0, a1, a2, a3, a4, a5]
       refine wpR (rs := [8]) (AllReadyH.cons rfl (fun K hK => ?_) AllReadyH.nil)
       refine step_append_own (by rfl) (.tmp 55) (.tmp 60) 54 (by rfl) 58 i0 _ 3 16 Tryz.underlying54 HI.out HI1.out HI2.out HI3.out rfl (by decide) w.heap.size (.slice (some ⟨g, 0, none⟩) f cL) f (flat3 ptC (st.take f)) (by rfl) (HLO.out _ O8) ad 1 1 (ptC (joinG x (st.drop f))) (by rfl) rfl C8 (ptC_one _) (by unfold maxLen; omega) (by omega) G8.size ?_
       intro v9 w9 O9 K9 B9
       have G9 := grown_trans_new G8 K9 HOB.out
       have HP9 : VAt w9 P 77 rs ∧ VAt w9 N 43 cs.toArray := ⟨hHeld.1.grown K9 (HOK.out _ _ _ _ O8 hHeld.1 (by decide)), hHeld.2.grown K9 (HOK.out _ _ _ _ O8 hHeld.2 (by decide))⟩
       have O10 : POwns w9 w.heap.size v9 (st.take f ++ [joinG x (st.drop f)]) := by
        unfold POwns
        rw [HLN.out, flat3_append, flat3_one]
        exact O9
       have HFIN : Hid (POwns w9 w.heap.size v9 (st.take f ++ [joinG x (st.drop f)]) ∧ (∀ p ∈ (st.take f ++ [joinG x (st.drop f)]), p.val ≤ 4294967295) ∧ walkG [] 0 t = walkG (st.take f ++ [joinG x (st.drop f)]) (k + 1) (t.drop (k + 1)) ∧ w.grownBy w9 none) := ⟨O10, HV2.out, HHW.out, G9⟩
       refine hK.out _ _ HP9 (fun hHeld => ?_)
       clear hK K O8 O9 O10 K9 B9 G8 G9 C8 HP9
       try simp only [Act.put, a0, a1, a2, a3, a4, a5]
       refine wpT (i := 9) (v := v9) rfl (Or.inl ⟨by rfl, fun W hW => ?_⟩) hHeld ?_
       ·clear hW
        go_simp
       try simp only [Act.put, a0, a1, a2, a3, a4, a5]
       refine wpAnyH_done (by kernel_rfl) ?_ _
       clear hHeld
       go_wp2
       go_roundw
       case rel => exact ⟨k + 1, _, by omega, by rw [HLN.out]; omega, by go_num, HFIN⟩
       case measure => simp [intOf]; omega
      ·have HF : Hid _ := HST2.out hfz
       have e1 : (faultG x (st.drop f) != 0) = true := by rw [bne_iff_ne]; exact hfz
       clear hfz HNX2 HST2 HJA HNX HST HO6 HP6 HV2 HLO HPC HPS HPV
       generalize faultG x (st.drop f) = fe at *
       go_wp2
       go_ret3
       refine ⟨.slice none 0 0, ?_, ?_, G6⟩
       ·rw [HF.out]; rfl
       ·rw [HF.out]; exact World.ownsRow_nil _ _ _ _
  ·obtain ⟨O, hv, hw, G⟩ := HI4.out
   have HF : Hid (walkG [] 0 t = .ok st) := by
    rw [List.drop_eq_nil_of_le (by omega)] at hw
    exact hw
   clear hv hw HI4
   go_wp2
   go_ret3
   refine ⟨u7, ?_, ?_, G⟩
   ·rw [HF.out]; rfl
   ·rw [HF.out]; exact O

end Go.Proofs.YtklipelnjgpnjaaGreatDoor
