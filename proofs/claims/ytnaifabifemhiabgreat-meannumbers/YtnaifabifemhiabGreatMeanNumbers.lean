/-
  For every list of nodes, link and bytes riddlelaw14.MeanNumbers returns true and leaves what was there as it was: no condition of ours.
-/
import Derived.Test.YtnaifabifemhiabGreatLotP44
import Derived.Test.YtnaifabifemhiabGreatLotP45
import Derived.Test.YtnaifabifemhiabGreatLotP29
import Derived.Deep.DeepCutAuto
namespace Go.Proofs.YtnaifabifemhiabGreat
open Go.ChangeShapes Go.WideShapes Go.ChangeAt Go.RowKit
set_option maxRecDepth 100000
namespace meanNumbers

theorem bld_len (W : World) : (Instr.build 37 #[(0, .int .i64 2)]).run Tryz.prog W = .ok (.agg lenN.cells.toArray) W := by kernel_rfl
def cN (o : Option Nat) : Nat := o.getD 0
def vA (x : Nat) (h e : Int) : Value := .tuple #[.int .u32 (x : Int), .int .i64 h, .int .i64 e]
theorem value_ok (t : List Ng) (l : Lk) (way : Int) (b : List UInt8) (h : refuseM (cmpdM t) l way = 0) : valueA t l way b = vA (meanM t l way b).val (meanM t l way b).how 0 := by
  unfold valueA
  rw [if_neg (by simpa using h)]
  rfl
theorem value_no (t : List Ng) (l : Lk) (way : Int) (b : List UInt8) (h : refuseM (cmpdM t) l way ≠ 0) : valueA t l way b = vA 0 0 (refuseM (cmpdM t) l way) := by
  unfold valueA
  rw [if_pos h]
  rfl

set_option maxRecDepth 100000 in
set_option maxHeartbeats 16000000 in
theorem walk (ao : Option Addr) (cap : Nat) (t : List Ng) (l : Lk) (a : Option Addr) (ca : Nat) (b : List UInt8) (w : World) (hA : CV w ao (flatG t)) (ha0 : ao = none → cap = 0) (_hac : t.length ≤ cap) (_hax : cap ≤ maxLen) (hal : t.length * 72 ≤ 140737488351232) (hao : ∀ x ∈ t, x.ok) (hb : Cells w a b) (hb0 : a = none → ca = 0) (hbn : b.length ≤ 140737488351232) :
    Calls Tryz.prog 4 #[.slice ao t.length cap, .agg (lkA l), .slice a b.length ca] w fun e w' => e = .returned (.bool true) ∧ w.grownBy w' none := by
  have hn : ∀ x ∈ t, x.n ≤ 4294967295 := fun x hx => (hao x hx).1
  have HBL := box_lk l
  have K1 := World.grownBy_alloc w (.cells (lkA l) 23) none
  have HLS := lk_sz l
  have HCN : Hid (∀ W, w.grownBy W none → Calls Tryz.prog 13 #[.slice ao t.length cap] W fun e w' => ∃ v, e = .returned v ∧ NgOwns w' W.heap.size v t ∧ W.grownBy w' none) := fun W K => gcopy_any ao cap t W (hA.keptNone K) ha0 (by omega)
  have HCB0 : Hid (∀ W, w.grownBy W none → Calls Tryz.prog 8 #[.slice a b.length ca] W fun e w' => ∃ v, e = .returned v ∧ Owns w' W.heap.size v b ∧ W.grownBy w' none) := fun W K => copy_any a ca b W (hb.keptNone K) hb0 (by omega)
  have HCT : Hid (∀ (W : World) (au : Option Addr) (cu : Nat), CV W au (flatG t) → Calls Tryz.prog 12 #[.slice au t.length cu] W fun e w' => e = .returned (constR (constG t)) ∧ W.grownBy w' none) := fun W au cu h => const12_any au cu t W h (by omega) hn
  have HVT : Hid (∀ (W : World) (au : Option Addr) (cu : Nat) (ab : Option Addr) (cb : Nat), CV W au (flatG t) → (au = none → cu = 0) → Cells W ab b → b.length ≤ cb → Calls Tryz.prog 11 #[.slice au t.length cu, .agg (lkA l), .int .i64 1, .slice ab b.length cb] W fun e w' => e = .returned (valueA t l 1 b) ∧ W.grownBy w' none) := fun W au cu ab cb h h0 h1 h2 => value_any au cu t l 1 ab cb b W h h0 (by omega) hn h1 (by omega) h2
  have HVL2 : Hid (∀ (W : World) (D : Addr) (cu : Nat) (ab : Option Addr) (cb : Nat), CV W (some D) (flatG [lenN]) → Cells W ab b → b.length ≤ cb → Calls Tryz.prog 11 #[.slice (some D) 1 cu, .agg (lkA l), .int .i64 1, .slice ab b.length cb] W fun e w' => e = .returned (valueA [lenN] l 1 b) ∧ W.grownBy w' none) := fun W D cu ab cb h h1 h2 => value_any (some D) cu [lenN] l 1 ab cb b W h (by intro h; cases h) (by decide) (by intro x hx; rw [List.mem_singleton.1 hx]; decide) h1 (by omega) h2
  have HTR : Hid (∀ W, w.grownBy W none → Calls Tryz.prog 14 #[.slice ao t.length cap] W fun e w' => e = .returned (.bool (decide (leftG 0 t = some 1))) ∧ w' = W) := fun W K => reftree_any ao cap t W (hA.keptNone K) (by omega)
  obtain ⟨E, hE⟩ : ∃ E, exE (lookX l b) = E := ⟨_, rfl⟩
  obtain ⟨X, hX⟩ : ∃ X, vwA (exV Vw.zero (lookX l b)) = X := ⟨_, rfl⟩
  have HLK : Hid (∀ (au : Option Addr) (cu : Nat) (W : World), Cells W au b → Calls Tryz.prog 7 #[.agg (lkA l), .slice au b.length cu] W fun e w' => e = .returned (.tuple #[.agg X, .int .i64 E]) ∧ W.grownBy w' none) := fun au cu W h => by
    have k := look_any l au cu b W h (by omega)
    rw [hE, hX] at k
    exact k
  have HXS : Hid ((Tryz.prog.info? 27).map (·.size) = some X.size ∧ (vwA Vw.zero).size = X.size ∧ X.all (·.oneCell') = true) := by
    show _ ∧ _ ∧ _
    rw [← hX]
    exact ⟨vw_sz _, rfl, vwA_all _⟩
  have HPP : Hid (∀ c, constG t = some c → refuseM (cmpdM t) l 1 = 0 → leftG 0 t = some 1 ∧ (E ≠ 0 → meanM t l 1 b = ⟨2, 0⟩) ∧ (E = 0 → meanM t l 1 b = ⟨1, c⟩ ∧ refuseM (cmpdM [lenN]) l 1 = 0 ∧ meanM [lenN] l 1 b = ⟨1, b.length⟩ ∧ b.length ≤ 65535)) := fun c h1 h2 => by
    have := num_pure (b := b) hn h1 h2
    rw [hE] at this
    exact this
  have HB2 := bld_len
  have HL2 := lit_ng1 lenN
  clear hA ha0 hal hao hb hb0 hbn hn hE hX _hac _hax
  obtain ⟨LA, hLA⟩ : ∃ LA, lkA l = LA := ⟨_, rfl⟩
  have V1 : VAt (w.alloc (.cells LA 23)) w.heap.size 23 LA := VAt.alloc _ _ _
  rw [hLA] at HBL K1 HVT HVL2 HLK HLS ⊢
  clear hLA
  obtain ⟨N2, h2⟩ : ∃ N2, lenN.cells.toArray = N2 := ⟨_, rfl⟩
  rw [h2] at HB2 HL2
  clear h2
  have HVX : Hid (∃ (x : Nat) (h e : Int), valueA t l 1 b = vA x h e ∧ ((e ≠ 0 ∧ refuseM (cmpdM t) l 1 ≠ 0) ∨ (e = 0 ∧ refuseM (cmpdM t) l 1 = 0 ∧ meanM t l 1 b = ⟨h, x⟩))) := by
    by_cases hr : refuseM (cmpdM t) l 1 = 0
    · exact ⟨_, _, _, value_ok _ _ _ _ hr, .inr ⟨rfl, hr, rfl⟩⟩
    · exact ⟨_, _, _, value_no _ _ _ _ hr, .inl ⟨hr, hr⟩⟩
  obtain ⟨vx, vh, ve, hve, hvc⟩ := HVX.out
  rw [hve] at HVT
  simp only [vA] at HVT
  have HVC : Hid ((ve ≠ 0 ∧ refuseM (cmpdM t) l 1 ≠ 0) ∨ (ve = 0 ∧ refuseM (cmpdM t) l 1 = 0 ∧ meanM t l 1 b = ⟨vh, vx⟩)) := hvc
  clear hve hvc HVX
  have HKX : Hid (∃ (x : Nat) (k : Bool), constR (constG t) = .tuple #[.int .u32 (x : Int), .bool k] ∧ (k = true → constG t = some x)) := by
    cases hc : constG t with
    | none => exact ⟨0, false, rfl, fun h => by cases h⟩
    | some c => exact ⟨c, true, rfl, fun _ => rfl⟩
  obtain ⟨cx, ck, hcx, hck⟩ := HKX.out
  rw [hcx] at HCT
  have HCK : Hid (ck = true → constG t = some cx) := hck
  clear hcx hck HKX
  have HAW : Hid (∀ W, w.grownBy W none → Calls Tryz.prog 9 #[] W fun e w' => e = .returned (.bool true) ∧ w.grownBy w' none) := fun W K => (awake14_any W).mono (fun e w' h => ⟨h.1, grown_trans K h.2⟩)
  go_enter Tryz.func4, Tryz.ntmps4
  go_upto_region 1 with fail
  generalize w.alloc (.cells LA 23) = w1 at *
  generalize w.heap.size = B at *
  clear HBL
  go_wp2_with fail
  refine (HCN.out _ K1).mono ?_
  rintro e wq ⟨vq, rfl, Oq, Kq⟩
  obtain ⟨aq, cq, hvq, Cq, -⟩ := cv_of_row Oq
  subst hvq
  go_wp2_with fail
  refine (HCT.out _ _ _ Cq).mono ?_
  rintro e wp ⟨rfl, Kp⟩
  have HVP : Hid (VAt wp B 23 LA) := (V1.kept Kq).kept Kp
  have HGP : Hid (w.grownBy wp none) := grown_trans (grown_trans K1 Kq) Kp
  clear V1 K1 Kq Kp Oq Cq HCT
  go_upto_region 2 with fail
  refine wp_region_held_drew (S := fun W => VAt W B 23 LA ∧ w.grownBy W none) (by kernel_rfl) (⟨HVP.out.kept (grown_drewN wp 1 none), grown_trans HGP.out (grown_drewN wp 1 none)⟩) (fun hHeld => ?_)
  refine wpAnyH_take (i := 0) (v := .slice ao t.length cap) rfl (by kernel_rfl) (by kernel_rfl) (by kernel_rfl) (fun _ _ _ h => h) (Or.inl ⟨by rfl, fun W hW => ?_⟩) hHeld ?_
  · clear hW
    go_simp
  try simp only [Act.put, List.getElem_toArray, List.getElem_cons_zero, List.setIfInBounds_toArray, List.set_cons_zero, List.set_cons_succ]
  refine wpAnyH_take (i := 2) (v := .agg (LA)) rfl (by kernel_rfl) (by kernel_rfl) (by kernel_rfl) (fun _ _ _ h => h) (yieldsIf_load_row (by rfl) _ _ rfl B rfl 23 (LA) _ (fun W hW => hW.1) Tryz.underlying23 rfl HLS) hHeld ?_
  try simp only [Act.put, List.getElem_toArray, List.getElem_cons_zero, List.getElem_cons_succ, List.setIfInBounds_toArray, List.set_cons_zero, List.set_cons_succ]
  refine wpAnyH_take (i := 3) (v := .slice a b.length ca) rfl (by kernel_rfl) (by kernel_rfl) (by kernel_rfl) (fun _ _ _ h => h) (Or.inl ⟨by rfl, fun W hW => ?_⟩) hHeld ?_
  · clear hW
    go_simp
  try simp only [Act.put, List.getElem_toArray, List.getElem_cons_zero, List.getElem_cons_succ, List.setIfInBounds_toArray, List.set_cons_zero, List.set_cons_succ]
  refine wpAnyH_ready (rs := [1]) (by kernel_rfl) (by simp) (AllReadyH.cons rfl (fun K hK => ?_) AllReadyH.nil)
  go_simp
  refine (HCN.out _ hHeld.2).mono ?_
  rintro e w2 ⟨v2, rfl, O2, K2⟩
  obtain ⟨a2, c2, hv2, C2, -, -, h02, -⟩ := cv_of_row O2
  subst hv2
  go_wp2_with fail
  refine hK.out _ _ (⟨hHeld.1.kept K2, grown_trans hHeld.2 K2⟩) (fun hHeld => ?_)
  clear hK K
  try simp only [Act.put, List.getElem_toArray, List.getElem_cons_zero, List.getElem_cons_succ, List.setIfInBounds_toArray, List.set_cons_zero, List.set_cons_succ]
  refine wpAnyH_ready (rs := [4]) (by kernel_rfl) (by simp) (AllReadyH.cons rfl (fun K hK => ?_) AllReadyH.nil)
  go_simp
  refine (HCB0.out _ hHeld.2).mono ?_
  rintro e w3 ⟨v3, rfl, O3, K3⟩
  obtain ⟨a3, c3, hv3, C3, hl3, -⟩ := cv_of_row O3
  subst hv3
  go_wp2_with fail
  refine hK.out _ _ (⟨hHeld.1.kept K3, grown_trans hHeld.2 K3⟩) (fun hHeld => ?_)
  clear hK K
  try simp only [Act.put, List.getElem_toArray, List.getElem_cons_zero, List.getElem_cons_succ, List.setIfInBounds_toArray, List.set_cons_zero, List.set_cons_succ]
  refine wpAnyH_ready (rs := [5]) (by kernel_rfl) (by simp) (AllReadyH.cons rfl (fun K hK => ?_) AllReadyH.nil)
  go_simp
  refine (HVT.out _ _ _ _ _ (C2.keptNone K3) h02 C3.cells hl3).mono ?_
  rintro e wa ⟨rfl, K4⟩
  go_wp2_with fail
  refine hK.out _ _ (⟨hHeld.1.kept K4, grown_trans hHeld.2 K4⟩) (fun hHeld => ?_)
  clear hK K
  try simp only [Act.put, List.getElem_toArray, List.getElem_cons_zero, List.getElem_cons_succ, List.setIfInBounds_toArray, List.set_cons_zero, List.set_cons_succ]
  refine wpAnyH_take (i := 6) (v := .tuple #[.int .u32 (vx : Int), .int .i64 vh, .int .i64 ve]) rfl (by kernel_rfl) (by kernel_rfl) (by kernel_rfl) (fun _ _ _ h => h) (Or.inl ⟨by rfl, fun W hW => ?_⟩) hHeld ?_
  · clear hW
    go_simp
  try simp only [Act.put, List.getElem_toArray, List.getElem_cons_zero, List.getElem_cons_succ, List.setIfInBounds_toArray, List.set_cons_zero, List.set_cons_succ]
  refine wpAnyH_take (i := 7) (v := .int .u32 (vx : Int)) rfl (by kernel_rfl) (by kernel_rfl) (by kernel_rfl) (fun _ _ _ h => h) (Or.inl ⟨by rfl, fun W hW => ?_⟩) hHeld ?_
  · clear hW
    go_simp
  try simp only [Act.put, List.getElem_toArray, List.getElem_cons_zero, List.getElem_cons_succ, List.setIfInBounds_toArray, List.set_cons_zero, List.set_cons_succ]
  refine wpAnyH_take (i := 8) (v := .int .i64 vh) rfl (by kernel_rfl) (by kernel_rfl) (by kernel_rfl) (fun _ _ _ h => h) (Or.inl ⟨by rfl, fun W hW => ?_⟩) hHeld ?_
  · clear hW
    go_simp
  try simp only [Act.put, List.getElem_toArray, List.getElem_cons_zero, List.getElem_cons_succ, List.setIfInBounds_toArray, List.set_cons_zero, List.set_cons_succ]
  refine wpAnyH_take (i := 9) (v := .int .i64 ve) rfl (by kernel_rfl) (by kernel_rfl) (by kernel_rfl) (fun _ _ _ h => h) (Or.inl ⟨by rfl, fun W hW => ?_⟩) hHeld ?_
  · clear hW
    go_simp
  try simp only [Act.put, List.getElem_toArray, List.getElem_cons_zero, List.getElem_cons_succ, List.setIfInBounds_toArray, List.set_cons_zero, List.set_cons_succ]
  refine wpAnyH_take (i := 10) (v := .int .u32 (vx : Int)) rfl (by kernel_rfl) (by kernel_rfl) (by kernel_rfl) (fun _ _ _ h => h) (Or.inl ⟨by rfl, fun W hW => ?_⟩) hHeld ?_
  · clear hW
    go_simp
  try simp only [Act.put, List.getElem_toArray, List.getElem_cons_zero, List.getElem_cons_succ, List.setIfInBounds_toArray, List.set_cons_zero, List.set_cons_succ]
  refine wpAnyH_take (i := 11) (v := .int .i64 vh) rfl (by kernel_rfl) (by kernel_rfl) (by kernel_rfl) (fun _ _ _ h => h) (Or.inl ⟨by rfl, fun W hW => ?_⟩) hHeld ?_
  · clear hW
    go_simp
  try simp only [Act.put, List.getElem_toArray, List.getElem_cons_zero, List.getElem_cons_succ, List.setIfInBounds_toArray, List.set_cons_zero, List.set_cons_succ]
  refine wpAnyH_take (i := 12) (v := .int .i64 ve) rfl (by kernel_rfl) (by kernel_rfl) (by kernel_rfl) (fun _ _ _ h => h) (Or.inl ⟨by rfl, fun W hW => ?_⟩) hHeld ?_
  · clear hW
    go_simp
  try simp only [Act.put, List.getElem_toArray, List.getElem_cons_zero, List.getElem_cons_succ, List.setIfInBounds_toArray, List.set_cons_zero, List.set_cons_succ]
  refine wpAnyH_done (by kernel_rfl) ?_ _

  have HVL : Hid (VAt wa B 23 LA) := hHeld.1
  have HGA : Hid (w.grownBy wa none) := hHeld.2
  have HCB : Hid (∀ W, wa.grownBy W none → Calls Tryz.prog 8 #[.slice a b.length ca] W fun e w' => ∃ v, e = .returned v ∧ Owns w' W.heap.size v b ∧ W.grownBy w' none) := fun W K => HCB0.out W (grown_trans HGA.out K)
  clear hHeld O2 O3 C2 C3 K2 K3 K4 HVT HVP HGP
  go_upto_region 3 with fail
  go_cut [12, 13] from 33 to 39 (fun s e wx => ∃ V, s = .pointer (some ⟨V, 0, none⟩) ∧ e = .int .i64 E ∧ VAt wx V 27 X ∧ wa.grownBy wx none)
  case first =>
    refine wp_region_held_drew (S := fun W => VAt W B 23 LA ∧ wa.grownBy W none) (by kernel_rfl) (⟨HVL.out.kept (grown_drewN wa 1 none), grown_drewN wa 1 none⟩) (fun hHeld => ?_)
    refine wpAnyH_take (i := 0) (v := .agg (LA)) rfl (by kernel_rfl) (by kernel_rfl) (by kernel_rfl) (fun _ _ _ h => h) (yieldsIf_load_row (by rfl) _ _ rfl B rfl 23 (LA) _ (fun W hW => hW.1) Tryz.underlying23 rfl HLS) hHeld ?_
    try simp only [Act.put, List.getElem_toArray, List.getElem_cons_zero, List.setIfInBounds_toArray, List.set_cons_zero, List.set_cons_succ]
    refine wpAnyH_take (i := 1) (v := .slice a b.length ca) rfl (by kernel_rfl) (by kernel_rfl) (by kernel_rfl) (fun _ _ _ h => h) (Or.inl ⟨by rfl, fun W hW => ?_⟩) hHeld ?_
    · clear hW
      go_simp
    try simp only [Act.put, List.getElem_toArray, List.getElem_cons_zero, List.getElem_cons_succ, List.setIfInBounds_toArray, List.set_cons_zero, List.set_cons_succ]
    refine wpAnyH_ready (rs := [2, 7]) (by kernel_rfl) (by simp) (AllReadyH.cons rfl (fun K hK => ?_) (AllReadyH.cons rfl (fun K hK => ?_) AllReadyH.nil))
    · skip
      go_simp
      refine (HCB.out _ hHeld.2).mono ?_
      rintro e w2 ⟨v2, rfl, O2, K2⟩
      obtain ⟨a2, c2, hv2, C2, -⟩ := cv_of_row O2
      subst hv2
      have C2 := C2.cells
      go_wp2_with fail
      refine hK.out _ _ (⟨hHeld.1.kept K2, grown_trans hHeld.2 K2⟩) (fun hHeld => ?_)
      clear hK K
      try simp only [Act.put, List.getElem_toArray, List.getElem_cons_zero, List.getElem_cons_succ, List.setIfInBounds_toArray, List.set_cons_zero, List.set_cons_succ]
      refine wpAnyH_ready (rs := [3, 7]) (by kernel_rfl) (by simp) (AllReadyH.cons rfl (fun K hK => ?_) (AllReadyH.cons rfl (fun K hK => ?_) AllReadyH.nil))
      · skip
        go_simp
        refine (HLK.out _ _ _ C2).mono ?_
        rintro e w3 ⟨rfl, K3⟩
        go_wp2_with fail
        refine hK.out _ _ (⟨hHeld.1.kept K3, grown_trans hHeld.2 K3⟩) (fun hHeld => ?_)
        clear hK K
        try simp only [Act.put, List.getElem_toArray, List.getElem_cons_zero, List.getElem_cons_succ, List.setIfInBounds_toArray, List.set_cons_zero, List.set_cons_succ]
        refine wpAnyH_take (i := 4) (v := .tuple #[.agg X, .int .i64 E]) rfl (by kernel_rfl) (by kernel_rfl) (by kernel_rfl) (fun _ _ _ h => h) (Or.inl ⟨by rfl, fun W hW => ?_⟩) hHeld ?_
        · clear hW
          go_simp
        try simp only [Act.put, List.getElem_toArray, List.getElem_cons_zero, List.getElem_cons_succ, List.setIfInBounds_toArray, List.set_cons_zero, List.set_cons_succ]
        refine wpAnyH_take (i := 5) (v := .agg X) rfl (by kernel_rfl) (by kernel_rfl) (by kernel_rfl) (fun _ _ _ h => h) (Or.inl ⟨by rfl, fun W hW => ?_⟩) hHeld ?_
        · clear hW
          go_simp
        try simp only [Act.put, List.getElem_toArray, List.getElem_cons_zero, List.getElem_cons_succ, List.setIfInBounds_toArray, List.set_cons_zero, List.set_cons_succ]
        refine wpAnyH_take (i := 6) (v := .int .i64 E) rfl (by kernel_rfl) (by kernel_rfl) (by kernel_rfl) (fun _ _ _ h => h) (Or.inl ⟨by rfl, fun W hW => ?_⟩) hHeld ?_
        · clear hW
          go_simp
        try simp only [Act.put, List.getElem_toArray, List.getElem_cons_zero, List.getElem_cons_succ, List.setIfInBounds_toArray, List.set_cons_zero, List.set_cons_succ]
        refine wpAnyH_ready (rs := [7]) (by kernel_rfl) (by simp) (AllReadyH.cons rfl (fun K hK => ?_) AllReadyH.nil)
        refine step_alloc (by rfl) 27 (by rfl) (vwA Vw.zero) alloc_view ?_
        intro V w7 AV K7 hbV
        have HbV : Hid (wa.heap.size ≤ V) := Nat.le_trans hHeld.2.size hbV
        refine hK.out _ _ (⟨hHeld.1.kept K7, grown_trans hHeld.2 K7⟩) (fun hHeld => ?_)
        clear hK K
        try simp only [Act.put, List.getElem_toArray, List.getElem_cons_zero, List.getElem_cons_succ, List.setIfInBounds_toArray, List.set_cons_zero, List.set_cons_succ]
        refine wpAnyH_ready (rs := [8]) (by kernel_rfl) (by simp) (AllReadyH.cons rfl (fun K hK => ?_) AllReadyH.nil)
        refine step_store_rowM (by rfl) 27 (.tmp 12) (.tmp 38) (by rfl) V X (by rfl) (by rfl) 27 _ AV HXS.out.1 HXS.out.2.1 HXS.out.2.2 ?_
        have AV2 := AV.setRow X
        refine hK.out _ _ ⟨VAt.other hHeld.1 _ (fun e => by have := HVL.out.lt; have := HbV.out; omega), vgrown_setRow hHeld.2 V _ (.inr HbV.out)⟩ (fun hHeld => ?_)
        clear hK K
        try simp only [Act.put]
        refine wpAnyH_take (i := 9) (v := .int .i64 E) rfl (by kernel_rfl) (by kernel_rfl) (by kernel_rfl) (fun _ _ _ h => h) (Or.inl ⟨by rfl, fun W hW => ?_⟩) hHeld ?_
        · clear hW
          go_simp
        try simp only [Act.put, List.getElem_toArray, List.getElem_cons_zero, List.getElem_cons_succ, List.setIfInBounds_toArray, List.set_cons_zero, List.set_cons_succ]
        refine wpAnyH_done (by kernel_rfl) ?_ _
        have HFIN : Hid (VAt _ V 27 X ∧ wa.grownBy _ none) := ⟨AV2, hHeld.2⟩
        clear hHeld AV2
        go_wp2
        go_meet
        exact ⟨V, rfl, rfl, HFIN.out.1, HFIN.out.2⟩
      · skip
        refine step_alloc (by rfl) 27 (by rfl) (vwA Vw.zero) alloc_view ?_
        intro V w7 AV K7 hbV
        have HbV : Hid (wa.heap.size ≤ V) := Nat.le_trans hHeld.2.size hbV
        have C2 := C2.keptNone K7
        refine hK.out _ _ (⟨hHeld.1.kept K7, grown_trans hHeld.2 K7⟩) (fun hHeld => ?_)
        clear hK K
        try simp only [Act.put, List.getElem_toArray, List.getElem_cons_zero, List.getElem_cons_succ, List.setIfInBounds_toArray, List.set_cons_zero, List.set_cons_succ]
        refine wpAnyH_ready (rs := [3]) (by kernel_rfl) (by simp) (AllReadyH.cons rfl (fun K hK => ?_) AllReadyH.nil)
        go_simp
        refine (HLK.out _ _ _ C2).mono ?_
        rintro e w3 ⟨rfl, K3⟩
        have AV := AV.kept K3
        go_wp2_with fail
        refine hK.out _ _ (⟨hHeld.1.kept K3, grown_trans hHeld.2 K3⟩) (fun hHeld => ?_)
        clear hK K
        try simp only [Act.put, List.getElem_toArray, List.getElem_cons_zero, List.getElem_cons_succ, List.setIfInBounds_toArray, List.set_cons_zero, List.set_cons_succ]
        refine wpAnyH_take (i := 4) (v := .tuple #[.agg X, .int .i64 E]) rfl (by kernel_rfl) (by kernel_rfl) (by kernel_rfl) (fun _ _ _ h => h) (Or.inl ⟨by rfl, fun W hW => ?_⟩) hHeld ?_
        · clear hW
          go_simp
        try simp only [Act.put, List.getElem_toArray, List.getElem_cons_zero, List.getElem_cons_succ, List.setIfInBounds_toArray, List.set_cons_zero, List.set_cons_succ]
        refine wpAnyH_take (i := 5) (v := .agg X) rfl (by kernel_rfl) (by kernel_rfl) (by kernel_rfl) (fun _ _ _ h => h) (Or.inl ⟨by rfl, fun W hW => ?_⟩) hHeld ?_
        · clear hW
          go_simp
        try simp only [Act.put, List.getElem_toArray, List.getElem_cons_zero, List.getElem_cons_succ, List.setIfInBounds_toArray, List.set_cons_zero, List.set_cons_succ]
        refine wpAnyH_take (i := 6) (v := .int .i64 E) rfl (by kernel_rfl) (by kernel_rfl) (by kernel_rfl) (fun _ _ _ h => h) (Or.inl ⟨by rfl, fun W hW => ?_⟩) hHeld ?_
        · clear hW
          go_simp
        try simp only [Act.put, List.getElem_toArray, List.getElem_cons_zero, List.getElem_cons_succ, List.setIfInBounds_toArray, List.set_cons_zero, List.set_cons_succ]
        refine wpAnyH_ready (rs := [8]) (by kernel_rfl) (by simp) (AllReadyH.cons rfl (fun K hK => ?_) AllReadyH.nil)
        refine step_store_rowM (by rfl) 27 (.tmp 12) (.tmp 38) (by rfl) V X (by rfl) (by rfl) 27 _ AV HXS.out.1 HXS.out.2.1 HXS.out.2.2 ?_
        have AV2 := AV.setRow X
        refine hK.out _ _ ⟨VAt.other hHeld.1 _ (fun e => by have := HVL.out.lt; have := HbV.out; omega), vgrown_setRow hHeld.2 V _ (.inr HbV.out)⟩ (fun hHeld => ?_)
        clear hK K
        try simp only [Act.put]
        refine wpAnyH_take (i := 9) (v := .int .i64 E) rfl (by kernel_rfl) (by kernel_rfl) (by kernel_rfl) (fun _ _ _ h => h) (Or.inl ⟨by rfl, fun W hW => ?_⟩) hHeld ?_
        · clear hW
          go_simp
        try simp only [Act.put, List.getElem_toArray, List.getElem_cons_zero, List.getElem_cons_succ, List.setIfInBounds_toArray, List.set_cons_zero, List.set_cons_succ]
        refine wpAnyH_done (by kernel_rfl) ?_ _
        have HFIN : Hid (VAt _ V 27 X ∧ wa.grownBy _ none) := ⟨AV2, hHeld.2⟩
        clear hHeld AV2
        go_wp2
        go_meet
        exact ⟨V, rfl, rfl, HFIN.out.1, HFIN.out.2⟩
    · skip
      refine step_alloc (by rfl) 27 (by rfl) (vwA Vw.zero) alloc_view ?_
      intro V w7 AV K7 hbV
      have HbV : Hid (wa.heap.size ≤ V) := Nat.le_trans hHeld.2.size hbV
      refine hK.out _ _ (⟨hHeld.1.kept K7, grown_trans hHeld.2 K7⟩) (fun hHeld => ?_)
      clear hK K
      try simp only [Act.put, List.getElem_toArray, List.getElem_cons_zero, List.getElem_cons_succ, List.setIfInBounds_toArray, List.set_cons_zero, List.set_cons_succ]
      refine wpAnyH_ready (rs := [2]) (by kernel_rfl) (by simp) (AllReadyH.cons rfl (fun K hK => ?_) AllReadyH.nil)
      go_simp
      refine (HCB.out _ hHeld.2).mono ?_
      rintro e w2 ⟨v2, rfl, O2, K2⟩
      obtain ⟨a2, c2, hv2, C2, -⟩ := cv_of_row O2
      subst hv2
      have C2 := C2.cells
      have AV := AV.kept K2
      go_wp2_with fail
      refine hK.out _ _ (⟨hHeld.1.kept K2, grown_trans hHeld.2 K2⟩) (fun hHeld => ?_)
      clear hK K
      try simp only [Act.put, List.getElem_toArray, List.getElem_cons_zero, List.getElem_cons_succ, List.setIfInBounds_toArray, List.set_cons_zero, List.set_cons_succ]
      refine wpAnyH_ready (rs := [3]) (by kernel_rfl) (by simp) (AllReadyH.cons rfl (fun K hK => ?_) AllReadyH.nil)
      go_simp
      refine (HLK.out _ _ _ C2).mono ?_
      rintro e w3 ⟨rfl, K3⟩
      have AV := AV.kept K3
      go_wp2_with fail
      refine hK.out _ _ (⟨hHeld.1.kept K3, grown_trans hHeld.2 K3⟩) (fun hHeld => ?_)
      clear hK K
      try simp only [Act.put, List.getElem_toArray, List.getElem_cons_zero, List.getElem_cons_succ, List.setIfInBounds_toArray, List.set_cons_zero, List.set_cons_succ]
      refine wpAnyH_take (i := 4) (v := .tuple #[.agg X, .int .i64 E]) rfl (by kernel_rfl) (by kernel_rfl) (by kernel_rfl) (fun _ _ _ h => h) (Or.inl ⟨by rfl, fun W hW => ?_⟩) hHeld ?_
      · clear hW
        go_simp
      try simp only [Act.put, List.getElem_toArray, List.getElem_cons_zero, List.getElem_cons_succ, List.setIfInBounds_toArray, List.set_cons_zero, List.set_cons_succ]
      refine wpAnyH_take (i := 5) (v := .agg X) rfl (by kernel_rfl) (by kernel_rfl) (by kernel_rfl) (fun _ _ _ h => h) (Or.inl ⟨by rfl, fun W hW => ?_⟩) hHeld ?_
      · clear hW
        go_simp
      try simp only [Act.put, List.getElem_toArray, List.getElem_cons_zero, List.getElem_cons_succ, List.setIfInBounds_toArray, List.set_cons_zero, List.set_cons_succ]
      refine wpAnyH_take (i := 6) (v := .int .i64 E) rfl (by kernel_rfl) (by kernel_rfl) (by kernel_rfl) (fun _ _ _ h => h) (Or.inl ⟨by rfl, fun W hW => ?_⟩) hHeld ?_
      · clear hW
        go_simp
      try simp only [Act.put, List.getElem_toArray, List.getElem_cons_zero, List.getElem_cons_succ, List.setIfInBounds_toArray, List.set_cons_zero, List.set_cons_succ]
      refine wpAnyH_ready (rs := [8]) (by kernel_rfl) (by simp) (AllReadyH.cons rfl (fun K hK => ?_) AllReadyH.nil)
      refine step_store_rowM (by rfl) 27 (.tmp 12) (.tmp 38) (by rfl) V X (by rfl) (by rfl) 27 _ AV HXS.out.1 HXS.out.2.1 HXS.out.2.2 ?_
      have AV2 := AV.setRow X
      refine hK.out _ _ ⟨VAt.other hHeld.1 _ (fun e => by have := HVL.out.lt; have := HbV.out; omega), vgrown_setRow hHeld.2 V _ (.inr HbV.out)⟩ (fun hHeld => ?_)
      clear hK K
      try simp only [Act.put]
      refine wpAnyH_take (i := 9) (v := .int .i64 E) rfl (by kernel_rfl) (by kernel_rfl) (by kernel_rfl) (fun _ _ _ h => h) (Or.inl ⟨by rfl, fun W hW => ?_⟩) hHeld ?_
      · clear hW
        go_simp
      try simp only [Act.put, List.getElem_toArray, List.getElem_cons_zero, List.getElem_cons_succ, List.setIfInBounds_toArray, List.set_cons_zero, List.set_cons_succ]
      refine wpAnyH_done (by kernel_rfl) ?_ _
      have HFIN : Hid (VAt _ V 27 X ∧ wa.grownBy _ none) := ⟨AV2, hHeld.2⟩
      clear hHeld AV2
      go_wp2
      go_meet
      exact ⟨V, rfl, rfl, HFIN.out.1, HFIN.out.2⟩

  case rest =>
    obtain ⟨V, rfl, rfl, -, K⟩ := hcut
    have HGW : Hid (w.grownBy wc none) := grown_trans HGA.out K
    have HVL3 : Hid (VAt wc B 23 LA) := HVL.out.kept K
    clear K HCB HLK HXS HVL HGA
    obtain ⟨wb, rfl⟩ : ∃ wb : World, wb = wc := ⟨_, rfl⟩
    cases ck with
    | false =>
      go_wp2_with fail
      refine (HAW.out _ HGW.out).mono ?_
      rintro e ws ⟨rfl, Ks⟩
      go_wp2
      go_ret
      exact ⟨rfl, Ks⟩
    | true =>
      rcases HVC.out with ⟨h1, -⟩ | ⟨h1, h2, h3⟩
      · have e1 : (ve != 0) = true := by rw [bne_iff_ne]; exact h1
        clear h1
        go_wp2_with fail
        refine (HAW.out _ HGW.out).mono ?_
        rintro e ws ⟨rfl, Ks⟩
        go_wp2
        go_ret
        exact ⟨rfl, Ks⟩
      · subst h1
        obtain ⟨p1, p2, p3⟩ := HPP.out cx (HCK.out rfl) h2
        by_cases hE0 : E = 0
        case neg =>
          have h4 := p2 hE0
          rw [h3] at h4
          have h5 : vh = 2 := congrArg Pm.how h4
          have h6 : vx = 0 := congrArg Pm.val h4
          subst h5 h6
          have eE : (E != 0) = true := by rw [bne_iff_ne]; exact hE0
          clear h2 h3 h4 p1 p2 p3 hE0
          go_wp2_with fail
          refine (HAW.out _ HGW.out).mono ?_
          rintro e ws ⟨rfl, Ks⟩
          go_wp2
          go_ret
          exact ⟨rfl, Ks⟩
        case pos =>
          obtain ⟨q1, q2, q3, q4⟩ := p3 hE0
          subst hE0
          rw [h3] at q1
          have h5 : vh = 1 := congrArg Pm.how q1
          have h6 : vx = cx := congrArg Pm.val q1
          subst h5 h6
          rw [value_ok _ _ _ _ q2, q3] at HVL2
          simp only [vA] at HVL2
          have HTR2 : Hid (∀ W, w.grownBy W none → Calls Tryz.prog 14 #[.slice ao t.length cap] W fun e w' => e = .returned (.bool true) ∧ w' = W) := fun W K => by
            have := HTR.out W K
            rw [decide_eq_true p1] at this
            exact this
          have HQ4 : Hid (b.length ≤ 65535) := q4
          clear h2 h3 p1 p2 p3 q1 q2 q3 q4 HTR HPP
          go_upto_region 8 with fail
          go_cut [14, 15, 16] from 58 to 67 (fun s u e wx => s = .int .u32 (b.length : Int) ∧ u = .int .i64 1 ∧ e = .int .i64 0 ∧ w.grownBy wx none)
          case first =>
            refine wp_region_held_drew (S := fun W => VAt W B 23 LA ∧ w.grownBy W none) (by kernel_rfl) (⟨HVL3.out.kept (grown_drewN wb 1 none), grown_trans HGW.out (grown_drewN wb 1 none)⟩) (fun hHeld => ?_)
            refine wpAnyH_take (i := 0) (v := .agg N2) rfl (by kernel_rfl) (by kernel_rfl) (by kernel_rfl) (fun _ _ _ h => h) (yieldsIf_bld (by rfl) 37 _ (by rfl) #[(0, .int .i64 2)] (by kernel_rfl) (.agg N2) HB2) hHeld ?_
            try simp only [Act.put, List.getElem_toArray, List.getElem_cons_zero, List.setIfInBounds_toArray, List.set_cons_zero, List.set_cons_succ]
            refine wpAnyH_take (i := 2) (v := .agg (LA)) rfl (by kernel_rfl) (by kernel_rfl) (by kernel_rfl) (fun _ _ _ h => h) (yieldsIf_load_row (by rfl) _ _ rfl B rfl 23 (LA) _ (fun W hW => hW.1) Tryz.underlying23 rfl HLS) hHeld ?_
            try simp only [Act.put, List.getElem_toArray, List.getElem_cons_zero, List.getElem_cons_succ, List.setIfInBounds_toArray, List.set_cons_zero, List.set_cons_succ]
            refine wpAnyH_take (i := 3) (v := .slice a b.length ca) rfl (by kernel_rfl) (by kernel_rfl) (by kernel_rfl) (fun _ _ _ h => h) (Or.inl ⟨by rfl, fun W hW => ?_⟩) hHeld ?_
            · clear hW
              go_simp
            try simp only [Act.put, List.getElem_toArray, List.getElem_cons_zero, List.getElem_cons_succ, List.setIfInBounds_toArray, List.set_cons_zero, List.set_cons_succ]
            refine wpAnyH_ready (rs := [1, 4]) (by kernel_rfl) (by simp) (AllReadyH.cons rfl (fun K hK => ?_) (AllReadyH.cons rfl (fun K hK => ?_) AllReadyH.nil))

            · skip
              refine step_lit (by rfl) 38 1 _ (by rfl) #[(0, .agg N2)] (by kernel_rfl) (flatG [lenN]) 37 HL2 ?_
              intro ad w3 CL K3
              refine hK.out _ _ (⟨hHeld.1.kept K3, grown_trans hHeld.2 K3⟩) (fun hHeld => ?_)
              clear hK K
              try simp only [Act.put, List.getElem_toArray, List.getElem_cons_zero, List.getElem_cons_succ, List.setIfInBounds_toArray, List.set_cons_zero, List.set_cons_succ]
              refine wpAnyH_ready (rs := [4]) (by kernel_rfl) (by simp) (AllReadyH.cons rfl (fun K hK => ?_) AllReadyH.nil)
              go_simp
              refine (HCB0.out _ hHeld.2).mono ?_
              rintro e w2 ⟨v2, rfl, O2, K2⟩
              obtain ⟨a2, c2, hv2, C2, hl2, -⟩ := cv_of_row O2
              subst hv2
              have CL := CL.keptNone K2
              go_wp2_with fail
              refine hK.out _ _ (⟨hHeld.1.kept K2, grown_trans hHeld.2 K2⟩) (fun hHeld => ?_)
              clear hK K
              try simp only [Act.put, List.getElem_toArray, List.getElem_cons_zero, List.getElem_cons_succ, List.setIfInBounds_toArray, List.set_cons_zero, List.set_cons_succ]
              refine wpAnyH_ready (rs := [5]) (by kernel_rfl) (by simp) (AllReadyH.cons rfl (fun K hK => ?_) AllReadyH.nil)
              go_simp
              refine (HVL2.out _ ad 1 _ _ CL C2.cells hl2).mono ?_
              rintro e w5 ⟨rfl, K5⟩
              go_wp2_with fail
              refine hK.out _ _ (⟨hHeld.1.kept K5, grown_trans hHeld.2 K5⟩) (fun hHeld => ?_)
              clear hK K
              try simp only [Act.put, List.getElem_toArray, List.getElem_cons_zero, List.getElem_cons_succ, List.setIfInBounds_toArray, List.set_cons_zero, List.set_cons_succ]
              refine wpAnyH_take (i := 6) (v := .tuple #[.int .u32 (b.length : Int), .int .i64 1, .int .i64 0]) rfl (by kernel_rfl) (by kernel_rfl) (by kernel_rfl) (fun _ _ _ h => h) (Or.inl ⟨by rfl, fun W hW => ?_⟩) hHeld ?_
              · clear hW
                go_simp
              try simp only [Act.put, List.getElem_toArray, List.getElem_cons_zero, List.getElem_cons_succ, List.setIfInBounds_toArray, List.set_cons_zero, List.set_cons_succ]
              refine wpAnyH_take (i := 7) (v := .int .u32 (b.length : Int)) rfl (by kernel_rfl) (by kernel_rfl) (by kernel_rfl) (fun _ _ _ h => h) (Or.inl ⟨by rfl, fun W hW => ?_⟩) hHeld ?_
              · clear hW
                go_simp
              try simp only [Act.put, List.getElem_toArray, List.getElem_cons_zero, List.getElem_cons_succ, List.setIfInBounds_toArray, List.set_cons_zero, List.set_cons_succ]
              refine wpAnyH_take (i := 8) (v := .int .i64 1) rfl (by kernel_rfl) (by kernel_rfl) (by kernel_rfl) (fun _ _ _ h => h) (Or.inl ⟨by rfl, fun W hW => ?_⟩) hHeld ?_
              · clear hW
                go_simp
              try simp only [Act.put, List.getElem_toArray, List.getElem_cons_zero, List.getElem_cons_succ, List.setIfInBounds_toArray, List.set_cons_zero, List.set_cons_succ]
              refine wpAnyH_take (i := 9) (v := .int .i64 0) rfl (by kernel_rfl) (by kernel_rfl) (by kernel_rfl) (fun _ _ _ h => h) (Or.inl ⟨by rfl, fun W hW => ?_⟩) hHeld ?_
              · clear hW
                go_simp
              try simp only [Act.put, List.getElem_toArray, List.getElem_cons_zero, List.getElem_cons_succ, List.setIfInBounds_toArray, List.set_cons_zero, List.set_cons_succ]
              refine wpAnyH_take (i := 10) (v := .int .u32 (b.length : Int)) rfl (by kernel_rfl) (by kernel_rfl) (by kernel_rfl) (fun _ _ _ h => h) (Or.inl ⟨by rfl, fun W hW => ?_⟩) hHeld ?_
              · clear hW
                go_simp
              try simp only [Act.put, List.getElem_toArray, List.getElem_cons_zero, List.getElem_cons_succ, List.setIfInBounds_toArray, List.set_cons_zero, List.set_cons_succ]
              refine wpAnyH_take (i := 11) (v := .int .i64 1) rfl (by kernel_rfl) (by kernel_rfl) (by kernel_rfl) (fun _ _ _ h => h) (Or.inl ⟨by rfl, fun W hW => ?_⟩) hHeld ?_
              · clear hW
                go_simp
              try simp only [Act.put, List.getElem_toArray, List.getElem_cons_zero, List.getElem_cons_succ, List.setIfInBounds_toArray, List.set_cons_zero, List.set_cons_succ]
              refine wpAnyH_take (i := 12) (v := .int .i64 0) rfl (by kernel_rfl) (by kernel_rfl) (by kernel_rfl) (fun _ _ _ h => h) (Or.inl ⟨by rfl, fun W hW => ?_⟩) hHeld ?_
              · clear hW
                go_simp
              try simp only [Act.put, List.getElem_toArray, List.getElem_cons_zero, List.getElem_cons_succ, List.setIfInBounds_toArray, List.set_cons_zero, List.set_cons_succ]
              refine wpAnyH_done (by kernel_rfl) ?_ _
              have HFIN : Hid (w.grownBy _ none) := hHeld.2
              clear hHeld CL C2 O2
              go_wp2
              go_meet
              exact ⟨rfl, rfl, rfl, HFIN.out⟩

            · skip
              go_simp
              refine (HCB0.out _ hHeld.2).mono ?_
              rintro e w2 ⟨v2, rfl, O2, K2⟩
              obtain ⟨a2, c2, hv2, C2, hl2, -⟩ := cv_of_row O2
              subst hv2
              go_wp2_with fail
              refine hK.out _ _ (⟨hHeld.1.kept K2, grown_trans hHeld.2 K2⟩) (fun hHeld => ?_)
              clear hK K
              try simp only [Act.put, List.getElem_toArray, List.getElem_cons_zero, List.getElem_cons_succ, List.setIfInBounds_toArray, List.set_cons_zero, List.set_cons_succ]
              refine wpAnyH_ready (rs := [1]) (by kernel_rfl) (by simp) (AllReadyH.cons rfl (fun K hK => ?_) AllReadyH.nil)
              refine step_lit (by rfl) 38 1 _ (by rfl) #[(0, .agg N2)] (by kernel_rfl) (flatG [lenN]) 37 HL2 ?_
              intro ad w3 CL K3
              have C2 := C2.keptNone K3
              refine hK.out _ _ (⟨hHeld.1.kept K3, grown_trans hHeld.2 K3⟩) (fun hHeld => ?_)
              clear hK K
              try simp only [Act.put, List.getElem_toArray, List.getElem_cons_zero, List.getElem_cons_succ, List.setIfInBounds_toArray, List.set_cons_zero, List.set_cons_succ]
              refine wpAnyH_ready (rs := [5]) (by kernel_rfl) (by simp) (AllReadyH.cons rfl (fun K hK => ?_) AllReadyH.nil)
              go_simp
              refine (HVL2.out _ ad 1 _ _ CL C2.cells hl2).mono ?_
              rintro e w5 ⟨rfl, K5⟩
              go_wp2_with fail
              refine hK.out _ _ (⟨hHeld.1.kept K5, grown_trans hHeld.2 K5⟩) (fun hHeld => ?_)
              clear hK K
              try simp only [Act.put, List.getElem_toArray, List.getElem_cons_zero, List.getElem_cons_succ, List.setIfInBounds_toArray, List.set_cons_zero, List.set_cons_succ]
              refine wpAnyH_take (i := 6) (v := .tuple #[.int .u32 (b.length : Int), .int .i64 1, .int .i64 0]) rfl (by kernel_rfl) (by kernel_rfl) (by kernel_rfl) (fun _ _ _ h => h) (Or.inl ⟨by rfl, fun W hW => ?_⟩) hHeld ?_
              · clear hW
                go_simp
              try simp only [Act.put, List.getElem_toArray, List.getElem_cons_zero, List.getElem_cons_succ, List.setIfInBounds_toArray, List.set_cons_zero, List.set_cons_succ]
              refine wpAnyH_take (i := 7) (v := .int .u32 (b.length : Int)) rfl (by kernel_rfl) (by kernel_rfl) (by kernel_rfl) (fun _ _ _ h => h) (Or.inl ⟨by rfl, fun W hW => ?_⟩) hHeld ?_
              · clear hW
                go_simp
              try simp only [Act.put, List.getElem_toArray, List.getElem_cons_zero, List.getElem_cons_succ, List.setIfInBounds_toArray, List.set_cons_zero, List.set_cons_succ]
              refine wpAnyH_take (i := 8) (v := .int .i64 1) rfl (by kernel_rfl) (by kernel_rfl) (by kernel_rfl) (fun _ _ _ h => h) (Or.inl ⟨by rfl, fun W hW => ?_⟩) hHeld ?_
              · clear hW
                go_simp
              try simp only [Act.put, List.getElem_toArray, List.getElem_cons_zero, List.getElem_cons_succ, List.setIfInBounds_toArray, List.set_cons_zero, List.set_cons_succ]
              refine wpAnyH_take (i := 9) (v := .int .i64 0) rfl (by kernel_rfl) (by kernel_rfl) (by kernel_rfl) (fun _ _ _ h => h) (Or.inl ⟨by rfl, fun W hW => ?_⟩) hHeld ?_
              · clear hW
                go_simp
              try simp only [Act.put, List.getElem_toArray, List.getElem_cons_zero, List.getElem_cons_succ, List.setIfInBounds_toArray, List.set_cons_zero, List.set_cons_succ]
              refine wpAnyH_take (i := 10) (v := .int .u32 (b.length : Int)) rfl (by kernel_rfl) (by kernel_rfl) (by kernel_rfl) (fun _ _ _ h => h) (Or.inl ⟨by rfl, fun W hW => ?_⟩) hHeld ?_
              · clear hW
                go_simp
              try simp only [Act.put, List.getElem_toArray, List.getElem_cons_zero, List.getElem_cons_succ, List.setIfInBounds_toArray, List.set_cons_zero, List.set_cons_succ]
              refine wpAnyH_take (i := 11) (v := .int .i64 1) rfl (by kernel_rfl) (by kernel_rfl) (by kernel_rfl) (fun _ _ _ h => h) (Or.inl ⟨by rfl, fun W hW => ?_⟩) hHeld ?_
              · clear hW
                go_simp
              try simp only [Act.put, List.getElem_toArray, List.getElem_cons_zero, List.getElem_cons_succ, List.setIfInBounds_toArray, List.set_cons_zero, List.set_cons_succ]
              refine wpAnyH_take (i := 12) (v := .int .i64 0) rfl (by kernel_rfl) (by kernel_rfl) (by kernel_rfl) (fun _ _ _ h => h) (Or.inl ⟨by rfl, fun W hW => ?_⟩) hHeld ?_
              · clear hW
                go_simp
              try simp only [Act.put, List.getElem_toArray, List.getElem_cons_zero, List.getElem_cons_succ, List.setIfInBounds_toArray, List.set_cons_zero, List.set_cons_succ]
              refine wpAnyH_done (by kernel_rfl) ?_ _
              have HFIN : Hid (w.grownBy _ none) := hHeld.2
              clear hHeld CL C2 O2
              go_wp2
              go_meet
              exact ⟨rfl, rfl, rfl, HFIN.out⟩

          case rest =>
            obtain ⟨rfl, rfl, rfl, K⟩ := hcut
            have HGZ : Hid (w.grownBy wc none) := K
            have hq : IntKind.u32.wrap (b.length : Int) = (b.length : Int) := by rw [IntKind.wrap_u32]; have := HQ4.out; omega
            have hq2 : (b.length : Int) % 4294967296 = (b.length : Int) := by have := HQ4.out; omega
            clear K
            go_wp2_with fail
            refine (HTR2.out _ HGZ.out).mono ?_
            rintro e ws ⟨rfl, rfl⟩
            go_wp2_with fail
            refine (HAW.out _ HGZ.out).mono ?_
            rintro e wt ⟨rfl, Ks⟩
            go_wp2
            go_ret
            exact ⟨rfl, Ks⟩

set_option maxRecDepth 100000 in
theorem lifted (os : Os) (started : os.Started) (H : Type) (enc : TypeId × Value → H) :
    ReturnsInHanded {} Tryz.checked os 4 .any (Rows.meanNumbersSpec.pre6 enc Tryz.prog Tryz.f4 Rows.meanNumbersRow.domain false) (Rows.meanNumbersSpec.post enc Tryz.prog Tryz.f4 false true false false) := by
  refine returnsInHanded_of_change_sized (C := Tryz.checked) own started (by kernel_rfl) Tryz.func4
    (ChangeSpec.witness6 (enc := enc) (C := Tryz.checked) false ⟨#[], #[.slice none 0 0, .agg #[.bool false, .bool false, .int .i64 0], .slice none 0 0], []⟩ 8 (by kernel_rfl) (by kernel_rfl) (by kernel_rfl) (by kernel_rfl)) ?_
  intro W base args ds gs before hval0 hW hcnd hsz0 _
  have hsz : (DataW.weightsEach Tryz.prog (Tryz.f4.params.toList ++ Rows.meanNumbersSpec.plain.varTypes Tryz.prog) (ds ++ gs)).all (· ≤ reachBytes) = true := hsz0
  have hval : ∀ (j : Nat) t v, Tryz.f4.params[j]? = some t → args[j]? = some v → Value.okWide Tryz.prog W .any base t v := hval0
  have hW' := hW
  obtain ⟨p, q, hA0, hV, rfl, hfz, hnd⟩ := hW
  have hA : DataW.TrodAll enc Tryz.prog W 0 (fun _ => true) true Tryz.f4.params.toList args.toList ds p := hA0
  rw [Tryz.params4] at hA hval hsz
  obtain ⟨v0, vs0, d0, ds0, p0, q0, hargs, rfl, rfl, h0, r0⟩ := trodAll_cons hA
  obtain ⟨v1, vs1, d1, ds1, p1, q1, rfl, rfl, rfl, h1, r1⟩ := trodAll_cons r0
  obtain ⟨v2, vs2, d2, ds2, p2, q2, rfl, rfl, rfl, h2, r2⟩ := trodAll_cons r1
  obtain ⟨rfl, rfl, rfl⟩ := trodAll_nil r2
  obtain rfl : args = #[v0, v1, v2] := by cases args; simp_all
  obtain ⟨rfl, rfl⟩ := trodVars_none hV
  obtain ⟨a0, len0, cap0, rfl⟩ := okWide_slice Tryz.underlying38 (hval 0 38 v0 rfl rfl)
  have k0 := h0
  have lt0 : ∀ x ∈ p0, x.block < W.heap.size := by obtain ⟨m, hm⟩ := k0; exact DataW.trod_lt m _ _ _ hm
  obtain ⟨xs0, rfl, hcells0, hnil0, hcp0, hok0, hdat0⟩ := open_nodes h0
  have k1 := h1
  have lt1 : ∀ x ∈ p1, x.block < W.heap.size := by obtain ⟨m, hm⟩ := k1; exact DataW.trod_lt m _ _ _ hm
  obtain ⟨x1, rfl⟩ := open_link h1
  obtain ⟨a2, len2, cap2, rfl⟩ := okWide_slice Tryz.underlying24 (hval 2 24 v2 rfl rfl)
  have k2 := h2
  have lt2 : ∀ x ∈ p2, x.block < W.heap.size := by obtain ⟨m, hm⟩ := k2; exact DataW.trod_lt m _ _ _ hm
  obtain ⟨xs2, rfl, hcells2, hnil2, hdat2⟩ := open_bytes Tryz.underlying24 Tryz.underlying5 (by kernel_rfl) h2
  have hlen0 : xs0.length * 72 ≤ 140737488351232 := by
    rcases hdat0 with ⟨_, rfl⟩ | ⟨elems, spare, rfl, hle⟩
    · simp
    · have := sized_slice hsz (j := 0) (t := 38) (e := 37) rfl rfl Tryz.underlying38
      rw [bytes37] at this
      unfold reachBytes at this
      omega
  have hlen2 : xs2.length * 1 ≤ 140737488351232 := by
    rcases hdat2 with ⟨_, rfl⟩ | ⟨elems, spare, rfl, hle⟩
    · simp
    · have := sized_slice hsz (j := 2) (t := 24) (e := 5) rfl rfl Tryz.underlying24
      rw [bytes5] at this
      unfold reachBytes at this
      omega
  clear hA0 hval0
  refine (walk a0 cap0 xs0 x1 a2 cap2 xs2 W hcells0 hnil0 hcp0.1 hcp0.2 (by omega) hok0 hcells2 hnil2 (by omega)).mono fun e W' ⟨he, hg⟩ => ?_
  subst he
  have bel : Below W.heap.size W W' := (Below.refl _ _).grown hg (Nat.le_refl _) (by simp)
  exact ⟨_, rfl, _, _, _, [], _, [], hW', trodAll_mk1 (shut_bool Tryz.underlying4 _), (trodAll_cons_mk (Below.trod laidOut (by kernel_rfl) (of_decide_eq_true (by kernel_rfl)) k0 bel lt0) (trodAll_cons_mk (Below.trod laidOut (by kernel_rfl) (of_decide_eq_true (by kernel_rfl)) k1 bel lt1) (trodAll_cons_mk (Below.trod laidOut (by kernel_rfl) (of_decide_eq_true (by kernel_rfl)) k2 bel lt2) trodAll_mk0))), rfl, bel.frame _, fun h => by cases h⟩

theorem over : Rows.MeanNumbersSaid :=
  OpenClaim.holds_of_wide 4 Tryz.f4 rfl rfl rfl rfl rfl rfl rfl ⟨rfl, rfl, rfl, rfl, rfl⟩ rfl rfl rfl rfl rfl (by kernel_rfl) Tryz.func4 (by kernel_rfl)
    (of_decide_eq_true (by kernel_rfl)) (by unfold Func.isWrapper; first | (rw [if_pos (by decide +kernel)]; kernel_rfl) | (rw [if_neg (by decide +kernel)]; exact ⟨rfl, rfl⟩))
    (fun os started H enc _ => lifted os started H enc)

end meanNumbers

theorem meanNumbers_holds : Rows.MeanNumbersSaid := meanNumbers.over
#print axioms meanNumbers_holds

end Go.Proofs.YtnaifabifemhiabGreat
