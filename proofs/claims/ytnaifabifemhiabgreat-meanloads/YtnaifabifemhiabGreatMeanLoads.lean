/-
  For every link, bytes, number and size riddlelaw14.MeanLoads returns true and leaves what was there as it was: no condition of ours.
-/
import Derived.Test.YtnaifabifemhiabGreatMlR
import Derived.Test.YtnaifabifemhiabGreatLotP45
import Derived.Deep.DeepCutAuto
namespace Go.Proofs.YtnaifabifemhiabGreat
open Go.ChangeShapes Go.WideShapes Go.ChangeAt Go.RowKit
set_option maxRecDepth 100000
namespace meanLoads

theorem bld_nm (a : Nat) (W : World) : (Instr.build 37 #[(0, .int .i64 1), (2, .int .u32 (a : Int))]).run Tryz.prog W = .ok (.agg (nmAt a).cells.toArray) W := by kernel_rfl
theorem bld_ldk (of n : Int) (W : World) : (Instr.build 37 #[(0, .int .i64 3), (5, .int .i64 of), (4, .int .i64 n)]).run Tryz.prog W = .ok (.agg (ldAt of n).cells.toArray) W := by kernel_rfl
theorem lit_of (W : World) : (Instr.buildSlice 34 3 #[(0, .int .i64 1), (1, .int .i64 2), (2, .int .i64 3)]).run Tryz.prog W = .ok (.slice (some ⟨W.heap.size, 0, none⟩) 3 3) (W.alloc (.cells [.int .i64 1, .int .i64 2, .int .i64 3].toArray 3)) := by kernel_rfl
theorem bounds_le {l : Lk} {b : List UInt8} {v : Vw} (h : lookX l b = .ok v) : b.length ≤ 65535 ∧ v.pos ≤ b.length := ⟨(look_ok h).len, (look_ok h).pos2⟩
theorem link_ok {l : Lk} {b : List UInt8} {v : Vw} (h : lookX l b = .ok v) : checkF l = 0 := by
  unfold lookX at h
  split at h
  · cases h
  · rename_i hh; omega

set_option maxRecDepth 100000 in
set_option maxHeartbeats 16000000 in
theorem walk (l : Lk) (a : Option Addr) (ca : Nat) (b : List UInt8) (at' : Nat) (x3 : Int) (w : World) (hb : Cells w a b) (hb0 : a = none → ca = 0) (hbn : b.length ≤ 140737488351232) (hat : at' ≤ 4294967295) :
    Calls Tryz.prog 3 #[.agg (lkA l), .slice a b.length ca, .int .u32 (at' : Int), .int .i64 x3] w fun e w' => e = .returned (.bool true) ∧ w.grownBy w' none := by
  have HBL := box_lk l
  have K1 := World.grownBy_alloc w (.cells (lkA l) 23) none
  have HLS := lk_sz l
  have HC0 : Hid (Cells w a b) := hb
  have HCB0 : Hid (∀ W, w.grownBy W none → Calls Tryz.prog 8 #[.slice a b.length ca] W fun e w' => ∃ v, e = .returned v ∧ Owns w' W.heap.size v b ∧ W.grownBy w' none) := fun W K => copy_any a ca b W (hb.keptNone K) hb0 (by omega)
  have HAT : Hid (at' ≤ 4294967295 ∧ b.length ≤ 140737488351232) := ⟨hat, hbn⟩
  have HVT : Hid (∀ (u : List Ng) (W : World) (D : Addr) (ab : Option Addr) (cb : Nat), u.length = 2 → CV W (some D) (flatG u) → (∀ x ∈ u, x.n ≤ 4294967295) → Cells W ab b → b.length ≤ cb → Calls Tryz.prog 11 #[.slice (some D) 2 2, .agg (lkA l), .int .i64 0, .slice ab b.length cb] W fun e w' => e = .returned (valueA u l 0 b) ∧ W.grownBy w' none) := fun u W D ab cb h0 h h1 h2 h3 => by
    have := value_any (some D) 2 u l 0 ab cb b W h (by intro h; cases h) (by rw [h0]; decide) h1 h2 (by omega) h3
    rw [h0] at this
    exact this
  obtain ⟨E, hE⟩ : ∃ E, exE (lookX l b) = E := ⟨_, rfl⟩
  obtain ⟨X, hX⟩ : ∃ X, vwA (exV Vw.zero (lookX l b)) = X := ⟨_, rfl⟩
  have HLK : Hid (∀ (au : Option Addr) (cu : Nat) (W : World), Cells W au b → Calls Tryz.prog 7 #[.agg (lkA l), .slice au b.length cu] W fun e w' => e = .returned (.tuple #[.agg X, .int .i64 E]) ∧ W.grownBy w' none) := fun au cu W h => by
    have k := look_any l au cu b W h (by omega)
    rw [hE, hX] at k
    exact k
  have HXS : Hid ((Tryz.prog.info? 27).map (·.size) = some X.size ∧ (vwA Vw.zero).size = X.size ∧ X.all (·.oneCell') = true) := by
    show _ ∧ _ ∧ _
    rw [← hX]
    exact ⟨vw_sz _, rfl, vwA_all _⟩
  have HEX : Hid (exE (lookX l b) = E ∧ vwA (exV Vw.zero (lookX l b)) = X) := ⟨hE, hX⟩
  have CL := low_any x3
  obtain ⟨lo, hlo⟩ : ∃ lo, lowV x3 = lo := ⟨_, rfl⟩
  rw [hlo] at CL
  clear hlo hb hb0 hbn hE hX hat
  have HBN := bld_nm at'
  have HLF := lit_of
  obtain ⟨LA, hLA⟩ : ∃ LA, lkA l = LA := ⟨_, rfl⟩
  have V1 : VAt (w.alloc (.cells LA 23)) w.heap.size 23 LA := VAt.alloc _ _ _
  rw [hLA] at HBL K1 HVT HLK HLS ⊢
  clear hLA
  have HAW : Hid (∀ W, w.grownBy W none → Calls Tryz.prog 9 #[] W fun e w' => e = .returned (.bool true) ∧ w.grownBy w' none) := fun W K => (awake14_any W).mono (fun e w' h => ⟨h.1, grown_trans K h.2⟩)
  go_enter Tryz.func3, Tryz.ntmps3
  go_upto_region 1 with fail
  generalize w.alloc (.cells LA 23) = wa at *
  generalize w.heap.size = B at *
  clear HBL
  have HVL : Hid (VAt wa B 23 LA) := V1
  have HGA : Hid (w.grownBy wa none) := K1
  have HCB : Hid (∀ W, wa.grownBy W none → Calls Tryz.prog 8 #[.slice a b.length ca] W fun e w' => ∃ v, e = .returned v ∧ Owns w' W.heap.size v b ∧ W.grownBy w' none) := fun W K => HCB0.out W (grown_trans HGA.out K)
  clear V1 K1
  go_cut [9, 10] from 24 to 30 (fun s e wx => ∃ V, s = .pointer (some ⟨V, 0, none⟩) ∧ e = .int .i64 E ∧ VAt wx V 27 X ∧ wa.grownBy wx none)
  case first =>
    refine wp_region_held_drew (S := fun W => VAt W B 23 LA ∧ wa.grownBy W none) (by kernel_rfl) (⟨HVL.out.kept (grown_drewN wa 1 none), grown_drewN wa 1 none⟩) (fun hHeld => ?_)
    refine wpAnyH_take (i := 0) (v := .agg (LA)) rfl (by kernel_rfl) (by kernel_rfl) (by kernel_rfl) (fun _ _ _ h => h) (yieldsIf_load_row (by rfl) _ _ rfl B rfl 23 (LA) _ (fun W hW => hW.1) Tryz.underlying23 rfl HLS) hHeld ?_
    try simp only [Act.put, List.getElem_toArray, List.getElem_cons_zero, List.setIfInBounds_toArray, List.set_cons_zero, List.set_cons_succ]
    refine wpAnyH_take (i := 1) (v := .slice a b.length ca) rfl (by kernel_rfl) (by kernel_rfl) (by kernel_rfl) (fun _ _ _ h => h) (Or.inl ⟨by rfl, fun W hW => ?_⟩) hHeld ?_
    · clear hW
      go_simp
    try simp only [Act.put, List.getElem_toArray, List.getElem_cons_zero, List.getElem_cons_succ, List.setIfInBounds_toArray, List.set_cons_zero, List.set_cons_succ]
    refine wpAnyH_ready (rs := [2, 7]) (by kernel_rfl) (by simp) (AllReadyH.cons rfl (fun K hK => ?_) (AllReadyH.cons rfl (fun K hK => ?_) AllReadyH.nil))
    · skip
      go_simp
      refine (HCB.out _ hHeld.2).mono ?_
      rintro e w2 ⟨v2, rfl, O2, K2⟩
      obtain ⟨a2, c2, hv2, C2, -⟩ := cv_of_row O2
      subst hv2
      have C2 := C2.cells
      go_wp2_with fail
      refine hK.out _ _ (⟨hHeld.1.kept K2, grown_trans hHeld.2 K2⟩) (fun hHeld => ?_)
      clear hK K
      try simp only [Act.put, List.getElem_toArray, List.getElem_cons_zero, List.getElem_cons_succ, List.setIfInBounds_toArray, List.set_cons_zero, List.set_cons_succ]
      refine wpAnyH_ready (rs := [3, 7]) (by kernel_rfl) (by simp) (AllReadyH.cons rfl (fun K hK => ?_) (AllReadyH.cons rfl (fun K hK => ?_) AllReadyH.nil))
      · skip
        go_simp
        refine (HLK.out _ _ _ C2).mono ?_
        rintro e w3 ⟨rfl, K3⟩
        go_wp2_with fail
        refine hK.out _ _ (⟨hHeld.1.kept K3, grown_trans hHeld.2 K3⟩) (fun hHeld => ?_)
        clear hK K
        try simp only [Act.put, List.getElem_toArray, List.getElem_cons_zero, List.getElem_cons_succ, List.setIfInBounds_toArray, List.set_cons_zero, List.set_cons_succ]
        refine wpAnyH_take (i := 4) (v := .tuple #[.agg X, .int .i64 E]) rfl (by kernel_rfl) (by kernel_rfl) (by kernel_rfl) (fun _ _ _ h => h) (Or.inl ⟨by rfl, fun W hW => ?_⟩) hHeld ?_
        · clear hW
          go_simp
        try simp only [Act.put, List.getElem_toArray, List.getElem_cons_zero, List.getElem_cons_succ, List.setIfInBounds_toArray, List.set_cons_zero, List.set_cons_succ]
        refine wpAnyH_take (i := 5) (v := .agg X) rfl (by kernel_rfl) (by kernel_rfl) (by kernel_rfl) (fun _ _ _ h => h) (Or.inl ⟨by rfl, fun W hW => ?_⟩) hHeld ?_
        · clear hW
          go_simp
        try simp only [Act.put, List.getElem_toArray, List.getElem_cons_zero, List.getElem_cons_succ, List.setIfInBounds_toArray, List.set_cons_zero, List.set_cons_succ]
        refine wpAnyH_take (i := 6) (v := .int .i64 E) rfl (by kernel_rfl) (by kernel_rfl) (by kernel_rfl) (fun _ _ _ h => h) (Or.inl ⟨by rfl, fun W hW => ?_⟩) hHeld ?_
        · clear hW
          go_simp
        try simp only [Act.put, List.getElem_toArray, List.getElem_cons_zero, List.getElem_cons_succ, List.setIfInBounds_toArray, List.set_cons_zero, List.set_cons_succ]
        refine wpAnyH_ready (rs := [7]) (by kernel_rfl) (by simp) (AllReadyH.cons rfl (fun K hK => ?_) AllReadyH.nil)
        refine step_alloc (by rfl) 27 (by rfl) (vwA Vw.zero) alloc_view ?_
        intro V w7 AV K7 hbV
        have HbV : Hid (wa.heap.size ≤ V) := Nat.le_trans hHeld.2.size hbV
        refine hK.out _ _ (⟨hHeld.1.kept K7, grown_trans hHeld.2 K7⟩) (fun hHeld => ?_)
        clear hK K
        try simp only [Act.put, List.getElem_toArray, List.getElem_cons_zero, List.getElem_cons_succ, List.setIfInBounds_toArray, List.set_cons_zero, List.set_cons_succ]
        refine wpAnyH_ready (rs := [8]) (by kernel_rfl) (by simp) (AllReadyH.cons rfl (fun K hK => ?_) AllReadyH.nil)
        refine step_store_rowM (by rfl) 27 (.tmp 9) (.tmp 29) (by rfl) V X (by rfl) (by rfl) 27 _ AV HXS.out.1 HXS.out.2.1 HXS.out.2.2 ?_
        have AV2 := AV.setRow X
        refine hK.out _ _ ⟨VAt.other hHeld.1 _ (fun e => by have := HVL.out.lt; have := HbV.out; omega), vgrown_setRow hHeld.2 V _ (.inr HbV.out)⟩ (fun hHeld => ?_)
        clear hK K
        try simp only [Act.put]
        refine wpAnyH_take (i := 9) (v := .int .i64 E) rfl (by kernel_rfl) (by kernel_rfl) (by kernel_rfl) (fun _ _ _ h => h) (Or.inl ⟨by rfl, fun W hW => ?_⟩) hHeld ?_
        · clear hW
          go_simp
        try simp only [Act.put, List.getElem_toArray, List.getElem_cons_zero, List.getElem_cons_succ, List.setIfInBounds_toArray, List.set_cons_zero, List.set_cons_succ]
        refine wpAnyH_done (by kernel_rfl) ?_ _
        have HFIN : Hid (VAt _ V 27 X ∧ wa.grownBy _ none) := ⟨AV2, hHeld.2⟩
        clear hHeld AV2
        go_wp2
        go_meet
        exact ⟨V, rfl, rfl, HFIN.out.1, HFIN.out.2⟩
      · skip
        refine step_alloc (by rfl) 27 (by rfl) (vwA Vw.zero) alloc_view ?_
        intro V w7 AV K7 hbV
        have HbV : Hid (wa.heap.size ≤ V) := Nat.le_trans hHeld.2.size hbV
        have C2 := C2.keptNone K7
        refine hK.out _ _ (⟨hHeld.1.kept K7, grown_trans hHeld.2 K7⟩) (fun hHeld => ?_)
        clear hK K
        try simp only [Act.put, List.getElem_toArray, List.getElem_cons_zero, List.getElem_cons_succ, List.setIfInBounds_toArray, List.set_cons_zero, List.set_cons_succ]
        refine wpAnyH_ready (rs := [3]) (by kernel_rfl) (by simp) (AllReadyH.cons rfl (fun K hK => ?_) AllReadyH.nil)
        go_simp
        refine (HLK.out _ _ _ C2).mono ?_
        rintro e w3 ⟨rfl, K3⟩
        have AV := AV.kept K3
        go_wp2_with fail
        refine hK.out _ _ (⟨hHeld.1.kept K3, grown_trans hHeld.2 K3⟩) (fun hHeld => ?_)
        clear hK K
        try simp only [Act.put, List.getElem_toArray, List.getElem_cons_zero, List.getElem_cons_succ, List.setIfInBounds_toArray, List.set_cons_zero, List.set_cons_succ]
        refine wpAnyH_take (i := 4) (v := .tuple #[.agg X, .int .i64 E]) rfl (by kernel_rfl) (by kernel_rfl) (by kernel_rfl) (fun _ _ _ h => h) (Or.inl ⟨by rfl, fun W hW => ?_⟩) hHeld ?_
        · clear hW
          go_simp
        try simp only [Act.put, List.getElem_toArray, List.getElem_cons_zero, List.getElem_cons_succ, List.setIfInBounds_toArray, List.set_cons_zero, List.set_cons_succ]
        refine wpAnyH_take (i := 5) (v := .agg X) rfl (by kernel_rfl) (by kernel_rfl) (by kernel_rfl) (fun _ _ _ h => h) (Or.inl ⟨by rfl, fun W hW => ?_⟩) hHeld ?_
        · clear hW
          go_simp
        try simp only [Act.put, List.getElem_toArray, List.getElem_cons_zero, List.getElem_cons_succ, List.setIfInBounds_toArray, List.set_cons_zero, List.set_cons_succ]
        refine wpAnyH_take (i := 6) (v := .int .i64 E) rfl (by kernel_rfl) (by kernel_rfl) (by kernel_rfl) (fun _ _ _ h => h) (Or.inl ⟨by rfl, fun W hW => ?_⟩) hHeld ?_
        · clear hW
          go_simp
        try simp only [Act.put, List.getElem_toArray, List.getElem_cons_zero, List.getElem_cons_succ, List.setIfInBounds_toArray, List.set_cons_zero, List.set_cons_succ]
        refine wpAnyH_ready (rs := [8]) (by kernel_rfl) (by simp) (AllReadyH.cons rfl (fun K hK => ?_) AllReadyH.nil)
        refine step_store_rowM (by rfl) 27 (.tmp 9) (.tmp 29) (by rfl) V X (by rfl) (by rfl) 27 _ AV HXS.out.1 HXS.out.2.1 HXS.out.2.2 ?_
        have AV2 := AV.setRow X
        refine hK.out _ _ ⟨VAt.other hHeld.1 _ (fun e => by have := HVL.out.lt; have := HbV.out; omega), vgrown_setRow hHeld.2 V _ (.inr HbV.out)⟩ (fun hHeld => ?_)
        clear hK K
        try simp only [Act.put]
        refine wpAnyH_take (i := 9) (v := .int .i64 E) rfl (by kernel_rfl) (by kernel_rfl) (by kernel_rfl) (fun _ _ _ h => h) (Or.inl ⟨by rfl, fun W hW => ?_⟩) hHeld ?_
        · clear hW
          go_simp
        try simp only [Act.put, List.getElem_toArray, List.getElem_cons_zero, List.getElem_cons_succ, List.setIfInBounds_toArray, List.set_cons_zero, List.set_cons_succ]
        refine wpAnyH_done (by kernel_rfl) ?_ _
        have HFIN : Hid (VAt _ V 27 X ∧ wa.grownBy _ none) := ⟨AV2, hHeld.2⟩
        clear hHeld AV2
        go_wp2
        go_meet
        exact ⟨V, rfl, rfl, HFIN.out.1, HFIN.out.2⟩
    · skip
      refine step_alloc (by rfl) 27 (by rfl) (vwA Vw.zero) alloc_view ?_
      intro V w7 AV K7 hbV
      have HbV : Hid (wa.heap.size ≤ V) := Nat.le_trans hHeld.2.size hbV
      refine hK.out _ _ (⟨hHeld.1.kept K7, grown_trans hHeld.2 K7⟩) (fun hHeld => ?_)
      clear hK K
      try simp only [Act.put, List.getElem_toArray, List.getElem_cons_zero, List.getElem_cons_succ, List.setIfInBounds_toArray, List.set_cons_zero, List.set_cons_succ]
      refine wpAnyH_ready (rs := [2]) (by kernel_rfl) (by simp) (AllReadyH.cons rfl (fun K hK => ?_) AllReadyH.nil)
      go_simp
      refine (HCB.out _ hHeld.2).mono ?_
      rintro e w2 ⟨v2, rfl, O2, K2⟩
      obtain ⟨a2, c2, hv2, C2, -⟩ := cv_of_row O2
      subst hv2
      have C2 := C2.cells
      have AV := AV.kept K2
      go_wp2_with fail
      refine hK.out _ _ (⟨hHeld.1.kept K2, grown_trans hHeld.2 K2⟩) (fun hHeld => ?_)
      clear hK K
      try simp only [Act.put, List.getElem_toArray, List.getElem_cons_zero, List.getElem_cons_succ, List.setIfInBounds_toArray, List.set_cons_zero, List.set_cons_succ]
      refine wpAnyH_ready (rs := [3]) (by kernel_rfl) (by simp) (AllReadyH.cons rfl (fun K hK => ?_) AllReadyH.nil)
      go_simp
      refine (HLK.out _ _ _ C2).mono ?_
      rintro e w3 ⟨rfl, K3⟩
      have AV := AV.kept K3
      go_wp2_with fail
      refine hK.out _ _ (⟨hHeld.1.kept K3, grown_trans hHeld.2 K3⟩) (fun hHeld => ?_)
      clear hK K
      try simp only [Act.put, List.getElem_toArray, List.getElem_cons_zero, List.getElem_cons_succ, List.setIfInBounds_toArray, List.set_cons_zero, List.set_cons_succ]
      refine wpAnyH_take (i := 4) (v := .tuple #[.agg X, .int .i64 E]) rfl (by kernel_rfl) (by kernel_rfl) (by kernel_rfl) (fun _ _ _ h => h) (Or.inl ⟨by rfl, fun W hW => ?_⟩) hHeld ?_
      · clear hW
        go_simp
      try simp only [Act.put, List.getElem_toArray, List.getElem_cons_zero, List.getElem_cons_succ, List.setIfInBounds_toArray, List.set_cons_zero, List.set_cons_succ]
      refine wpAnyH_take (i := 5) (v := .agg X) rfl (by kernel_rfl) (by kernel_rfl) (by kernel_rfl) (fun _ _ _ h => h) (Or.inl ⟨by rfl, fun W hW => ?_⟩) hHeld ?_
      · clear hW
        go_simp
      try simp only [Act.put, List.getElem_toArray, List.getElem_cons_zero, List.getElem_cons_succ, List.setIfInBounds_toArray, List.set_cons_zero, List.set_cons_succ]
      refine wpAnyH_take (i := 6) (v := .int .i64 E) rfl (by kernel_rfl) (by kernel_rfl) (by kernel_rfl) (fun _ _ _ h => h) (Or.inl ⟨by rfl, fun W hW => ?_⟩) hHeld ?_
      · clear hW
        go_simp
      try simp only [Act.put, List.getElem_toArray, List.getElem_cons_zero, List.getElem_cons_succ, List.setIfInBounds_toArray, List.set_cons_zero, List.set_cons_succ]
      refine wpAnyH_ready (rs := [8]) (by kernel_rfl) (by simp) (AllReadyH.cons rfl (fun K hK => ?_) AllReadyH.nil)
      refine step_store_rowM (by rfl) 27 (.tmp 9) (.tmp 29) (by rfl) V X (by rfl) (by rfl) 27 _ AV HXS.out.1 HXS.out.2.1 HXS.out.2.2 ?_
      have AV2 := AV.setRow X
      refine hK.out _ _ ⟨VAt.other hHeld.1 _ (fun e => by have := HVL.out.lt; have := HbV.out; omega), vgrown_setRow hHeld.2 V _ (.inr HbV.out)⟩ (fun hHeld => ?_)
      clear hK K
      try simp only [Act.put]
      refine wpAnyH_take (i := 9) (v := .int .i64 E) rfl (by kernel_rfl) (by kernel_rfl) (by kernel_rfl) (fun _ _ _ h => h) (Or.inl ⟨by rfl, fun W hW => ?_⟩) hHeld ?_
      · clear hW
        go_simp
      try simp only [Act.put, List.getElem_toArray, List.getElem_cons_zero, List.getElem_cons_succ, List.setIfInBounds_toArray, List.set_cons_zero, List.set_cons_succ]
      refine wpAnyH_done (by kernel_rfl) ?_ _
      have HFIN : Hid (VAt _ V 27 X ∧ wa.grownBy _ none) := ⟨AV2, hHeld.2⟩
      clear hHeld AV2
      go_wp2
      go_meet
      exact ⟨V, rfl, rfl, HFIN.out.1, HFIN.out.2⟩

  case rest =>
    obtain ⟨V, rfl, rfl, VV, K⟩ := hcut
    have HGW : Hid (w.grownBy wc none) := grown_trans HGA.out K
    have HVL3 : Hid (VAt wc B 23 LA) := HVL.out.kept K
    have HVV : Hid (VAt wc V 27 X) := VV
    clear K HCB HLK HXS HVL HGA VV
    obtain ⟨wb, rfl⟩ : ∃ wb : World, wb = wc := ⟨_, rfl⟩
    cases hlk : lookX l b with
    | error er =>
      have h1 : E = er := by rw [← HEX.out.1, hlk]; rfl
      have h2 := look_err hlk
      subst h1
      clear hlk HEX
      go_wp2_with fail
      refine (HAW.out _ HGW.out).mono ?_
      rintro e ws ⟨rfl, Ks⟩
      go_wp2
      go_ret
      exact ⟨rfl, Ks⟩
    | ok v =>
      have h1 : E = 0 := by rw [← HEX.out.1, hlk]; rfl
      have h2 : vwA v = X := by rw [← HEX.out.2, hlk]; rfl
      subst h1
      have HPU : Hid (∀ (n : Nat) (of : Int), (of = 1 ∨ of = 2 ∨ of = 3) → (n = 1 ∨ n = 2 ∨ n = 4) → valueA [nmAt at', ldAt of n] l 0 b = (if (baseM v of).2 = false then .tuple #[.int .u32 0, .int .i64 0, .int .i64 0] else if (baseM v of).1 + at' + n ≤ b.length then .tuple #[.int .u32 (numAt b ((baseM v of).1 + at') n : Int), .int .i64 1, .int .i64 0] else .tuple #[.int .u32 0, .int .i64 2, .int .i64 0])) := fun n of ho hn => loads_pure at' n of hlk ho hn (link_ok hlk)
      have HBD : Hid (b.length ≤ 65535 ∧ v.pos ≤ b.length) := bounds_le hlk
      have HV9 : Hid (VAt wb V 27 (vwA v)) := by show VAt _ _ _ _; rw [h2]; exact HVV.out
      clear hlk HEX h2 HVV
      go_upto_region 4 with fail
      go_cut [11] from 34 to 37 (fun s wx => ∃ nn : Nat, (nn = 1 ∨ nn = 2 ∨ nn = 4) ∧ s = .int .i64 (nn : Int) ∧ wx = wb)
      case first =>
        go_wp2_with fail
        refine (CL _).mono ?_
        rintro e w3 ⟨rfl, rfl⟩
        have hm : lo % 3 = 0 ∨ lo % 3 = 1 ∨ lo % 3 = 2 := by omega
        rcases hm with hm | hm | hm
        · have e3 : (lo : Int) % 3 = 0 := by omega
          clear hm
          go_wp2
          go_meet
          exact ⟨1, by omega, rfl, rfl⟩
        · have e3 : (lo : Int) % 3 = 1 := by omega
          clear hm
          go_wp2
          go_meet
          exact ⟨2, by omega, rfl, rfl⟩
        · have e3 : (lo : Int) % 3 = 2 := by omega
          clear hm
          go_wp2
          go_meet
          exact ⟨4, by omega, rfl, rfl⟩
      case rest =>
        obtain ⟨nn, hnn, rfl, rfl⟩ := hcut
        have HNN : Hid (nn = 1 ∨ nn = 2 ∨ nn = 4) := hnn
        clear hnn CL
        go_upto_region 6 with (refine wpList_lit (by rfl) 34 3 _ rfl #[(0, .int .i64 1), (1, .int .i64 2), (2, .int .i64 3)] (by kernel_rfl) [.int .i64 1, .int .i64 2, .int .i64 3] 3 HLF ?_; intro OF wo CO KO)
        have HGO : Hid (w.grownBy wo none) := grown_trans HGW.out KO
        have HVO : Hid (VAt wo B 23 LA ∧ VAt wo V 27 (vwA v) ∧ CV wo (some ⟨OF, 0, none⟩) [.int .i64 1, .int .i64 2, .int .i64 3]) := ⟨HVL3.out.kept KO, HV9.out.kept KO, CO⟩
        clear KO CO HVL3 HV9 HGW HLF
        go_wp2
        go_loopw [13] (fun i wr => ∃ k : Nat, k ≤ 3 ∧ i = .int .i64 k ∧ wo.grownBy wr none) (fun i _ => 3 - (intOf i).toNat)
        case atStart => exact ⟨0, by omega, rfl, World.grownBy.refl _ _⟩
        case round =>
          obtain ⟨k, hk, rfl, K⟩ := hrel
          obtain ⟨wi, rfl⟩ : ∃ wi : World, wi = wr := ⟨_, rfl⟩
          have hk4 : k = 0 ∨ k = 1 ∨ k = 2 ∨ k = 3 := by omega
          have HGI : Hid (w.grownBy wi none) := grown_trans HGO.out K
          have VLi := HVO.out.1.kept K
          have VVi := HVO.out.2.1.kept K
          have COi := HVO.out.2.2.keptNone K
          have HKI : Hid (wo.grownBy wi none) := K
          clear K hk
          have c5 : wi.cell? ⟨V, 5, none⟩ = some (.int .i64 (v.pos : Int)) := VVi.cell 5
          have c6 : wi.cell? ⟨V, 6, none⟩ = some (.int .i64 (v.net : Int)) := VVi.cell 6
          have f0 : wi.cell? ⟨OF, 0, none⟩ = some (.int .i64 1) := COi.2 _ rfl 0 (by simp)
          have f1 : wi.cell? ⟨OF, 1, none⟩ = some (.int .i64 2) := COi.2 _ rfl 1 (by simp)
          have f2 : wi.cell? ⟨OF, 2, none⟩ = some (.int .i64 3) := COi.2 _ rfl 2 (by simp)
          clear COi VVi
          have HVLI : Hid (VAt wi B 23 LA) := VLi
          clear VLi
          rcases hk4 with rfl | rfl | rfl | rfl

          · rw [show ((0 : Nat) : Int) = 0 from rfl]
            obtain ⟨SM, hSM⟩ : ∃ SM : Nat, at' + nn = SM := ⟨_, rfl⟩
            have HSM : Hid (at' + nn = SM) := hSM
            clear hSM
            have HBT : Hid (baseM v 1 = (0, true)) := rfl
            by_cases hs : SM ≤ b.length
            · have HVE : Hid (valueA [nmAt at', ldAt 1 (nn : Int)] l 0 b = .tuple #[.int .u32 (numAt b at' nn : Int), .int .i64 1, .int .i64 0]) := by
                show _ = _
                rw [HPU.out nn 1 (by omega) HNN.out, HBT.out, if_neg (by simp)]
                simp only
                rw [Nat.zero_add, HSM.out]
                rw [if_pos hs]
              have HBD2 := bld_ldk 1 (nn : Int)
              have HLD := lit_duo (nmAt at') (ldAt 1 (nn : Int))
              have HVX : Hid (∀ (W : World) (D : Addr) (ab : Option Addr) (cb : Nat), CV W (some D) (flatG [nmAt at', ldAt 1 (nn : Int)]) → Cells W ab b → b.length ≤ cb → Calls Tryz.prog 11 #[.slice (some D) 2 2, .agg LA, .int .i64 0, .slice ab b.length cb] W fun e w' => e = .returned (.tuple #[.int .u32 (numAt b at' nn : Int), .int .i64 1, .int .i64 0]) ∧ W.grownBy w' none) := fun W D ab cb h h2 h3 => by
                have := HVT.out [nmAt at', ldAt 1 (nn : Int)] W D ab cb rfl h (by intro x hx; simp only [List.mem_cons, List.not_mem_nil, or_false] at hx; rcases hx with rfl | rfl; exact HAT.out.1; exact Nat.zero_le _) h2 h3
                rw [HVE.out] at this
                exact this
              obtain ⟨NA, hNA⟩ : ∃ NA, (nmAt at').cells.toArray = NA := ⟨_, rfl⟩
              obtain ⟨ND, hND⟩ : ∃ ND, (ldAt 1 (nn : Int)).cells.toArray = ND := ⟨_, rfl⟩
              have HBN2 := HBN
              rw [hNA] at HBN2 HLD
              rw [hND] at HBD2 HLD
              clear hNA hND
              go_upto_region 14 with (first
                | (refine wpList_bld rfl 37 #[(0, .const (.int .i64 1)), (2, .tmp 53)] rfl #[(0, .int .i64 1), (2, .int .u32 (at' : Int))] (by kernel_rfl) (.agg NA) HBN2 ?_)
                | (refine wpList_bld rfl 37 #[(0, .const (.int .i64 3)), (5, .tmp 58), (4, .tmp 59)] rfl #[(0, .int .i64 3), (5, .int .i64 1), (4, .int .i64 (nn : Int))] (by kernel_rfl) (.agg ND) HBD2 ?_)
                | (refine wpList_lit (by rfl) 38 2 _ rfl #[(0, .agg NA), (1, .agg ND)] (by kernel_rfl) (flatG [nmAt at', ldAt 1 (nn : Int)]) 37 HLD ?_; intro D wj CD KJ))
              have HSJ : Hid (VAt wj.drew B 23 LA ∧ wi.grownBy wj.drew none) := ⟨(HVLI.out.kept KJ).kept (grown_drewN wj 1 none), grown_trans KJ (grown_drewN wj 1 none)⟩
              have HCD : Hid (∀ W, wj.grownBy W none → CV W (some ⟨D, 0, none⟩) (flatG [nmAt at', ldAt 1 (nn : Int)])) := fun W K => CD.keptNone K
              clear CD KJ c5 c6 f0 f1 f2
              refine wp_region_held_drew (S := fun W => VAt W B 23 LA ∧ wi.grownBy W none ∧ wj.grownBy W none) (by kernel_rfl) (⟨HSJ.out.1, HSJ.out.2, grown_drewN wj 1 none⟩) (fun hHeld => ?_)
              refine wpAnyH_take (i := 0) (v := .slice (some ⟨D, 0, none⟩) 2 2) rfl (by kernel_rfl) (by kernel_rfl) (by kernel_rfl) (fun _ _ _ h => h) (Or.inl ⟨by rfl, fun W hW => ?_⟩) hHeld ?_
              · clear hW
                go_simp
              try simp only [Act.put, List.getElem_toArray, List.getElem_cons_zero, List.setIfInBounds_toArray, List.set_cons_zero, List.set_cons_succ]
              refine wpAnyH_take (i := 1) (v := .agg (LA)) rfl (by kernel_rfl) (by kernel_rfl) (by kernel_rfl) (fun _ _ _ h => h) (yieldsIf_load_row (by rfl) _ _ rfl B rfl 23 (LA) _ (fun W hW => hW.1) Tryz.underlying23 rfl HLS) hHeld ?_
              try simp only [Act.put, List.getElem_toArray, List.getElem_cons_zero, List.getElem_cons_succ, List.setIfInBounds_toArray, List.set_cons_zero, List.set_cons_succ]
              refine wpAnyH_take (i := 2) (v := .slice a b.length ca) rfl (by kernel_rfl) (by kernel_rfl) (by kernel_rfl) (fun _ _ _ h => h) (Or.inl ⟨by rfl, fun W hW => ?_⟩) hHeld ?_
              · clear hW
                go_simp
              try simp only [Act.put, List.getElem_toArray, List.getElem_cons_zero, List.getElem_cons_succ, List.setIfInBounds_toArray, List.set_cons_zero, List.set_cons_succ]
              refine wpAnyH_ready (rs := [3]) (by kernel_rfl) (by simp) (AllReadyH.cons rfl (fun K hK => ?_) AllReadyH.nil)
              go_simp
              refine (HCB0.out _ (grown_trans HGI.out hHeld.2.1)).mono ?_
              rintro e w2 ⟨v2, rfl, O2, K2⟩
              obtain ⟨a2, c2, hv2, C2, hl2, -⟩ := cv_of_row O2
              subst hv2
              go_wp2_with fail
              refine hK.out _ _ (⟨hHeld.1.kept K2, grown_trans hHeld.2.1 K2, grown_trans hHeld.2.2 K2⟩) (fun hHeld => ?_)
              clear hK K
              try simp only [Act.put, List.getElem_toArray, List.getElem_cons_zero, List.getElem_cons_succ, List.setIfInBounds_toArray, List.set_cons_zero, List.set_cons_succ]
              refine wpAnyH_ready (rs := [4]) (by kernel_rfl) (by simp) (AllReadyH.cons rfl (fun K hK => ?_) AllReadyH.nil)
              go_simp
              refine (HVX.out _ _ _ _ (HCD.out _ hHeld.2.2) C2.cells hl2).mono ?_
              rintro e w5 ⟨rfl, K5⟩
              go_wp2_with fail
              refine hK.out _ _ (⟨hHeld.1.kept K5, grown_trans hHeld.2.1 K5, grown_trans hHeld.2.2 K5⟩) (fun hHeld => ?_)
              clear hK K
              try simp only [Act.put, List.getElem_toArray, List.getElem_cons_zero, List.getElem_cons_succ, List.setIfInBounds_toArray, List.set_cons_zero, List.set_cons_succ]
              refine wpAnyH_take (i := 5) (v := .tuple #[.int .u32 (numAt b at' nn : Int), .int .i64 1, .int .i64 0]) rfl (by kernel_rfl) (by kernel_rfl) (by kernel_rfl) (fun _ _ _ h => h) (Or.inl ⟨by rfl, fun W hW => ?_⟩) hHeld ?_
              · clear hW
                go_simp
              try simp only [Act.put, List.getElem_toArray, List.getElem_cons_zero, List.getElem_cons_succ, List.setIfInBounds_toArray, List.set_cons_zero, List.set_cons_succ]
              refine wpAnyH_take (i := 6) (v := .int .u32 (numAt b at' nn : Int)) rfl (by kernel_rfl) (by kernel_rfl) (by kernel_rfl) (fun _ _ _ h => h) (Or.inl ⟨by rfl, fun W hW => ?_⟩) hHeld ?_
              · clear hW
                go_simp
              try simp only [Act.put, List.getElem_toArray, List.getElem_cons_zero, List.getElem_cons_succ, List.setIfInBounds_toArray, List.set_cons_zero, List.set_cons_succ]
              refine wpAnyH_take (i := 7) (v := .int .i64 1) rfl (by kernel_rfl) (by kernel_rfl) (by kernel_rfl) (fun _ _ _ h => h) (Or.inl ⟨by rfl, fun W hW => ?_⟩) hHeld ?_
              · clear hW
                go_simp
              try simp only [Act.put, List.getElem_toArray, List.getElem_cons_zero, List.getElem_cons_succ, List.setIfInBounds_toArray, List.set_cons_zero, List.set_cons_succ]
              refine wpAnyH_take (i := 8) (v := .int .i64 0) rfl (by kernel_rfl) (by kernel_rfl) (by kernel_rfl) (fun _ _ _ h => h) (Or.inl ⟨by rfl, fun W hW => ?_⟩) hHeld ?_
              · clear hW
                go_simp
              try simp only [Act.put, List.getElem_toArray, List.getElem_cons_zero, List.getElem_cons_succ, List.setIfInBounds_toArray, List.set_cons_zero, List.set_cons_succ]
              refine wpAnyH_take (i := 9) (v := .int .u32 (numAt b at' nn : Int)) rfl (by kernel_rfl) (by kernel_rfl) (by kernel_rfl) (fun _ _ _ h => h) (Or.inl ⟨by rfl, fun W hW => ?_⟩) hHeld ?_
              · clear hW
                go_simp
              try simp only [Act.put, List.getElem_toArray, List.getElem_cons_zero, List.getElem_cons_succ, List.setIfInBounds_toArray, List.set_cons_zero, List.set_cons_succ]
              refine wpAnyH_take (i := 10) (v := .int .i64 1) rfl (by kernel_rfl) (by kernel_rfl) (by kernel_rfl) (fun _ _ _ h => h) (Or.inl ⟨by rfl, fun W hW => ?_⟩) hHeld ?_
              · clear hW
                go_simp
              try simp only [Act.put, List.getElem_toArray, List.getElem_cons_zero, List.getElem_cons_succ, List.setIfInBounds_toArray, List.set_cons_zero, List.set_cons_succ]
              refine wpAnyH_take (i := 11) (v := .int .i64 0) rfl (by kernel_rfl) (by kernel_rfl) (by kernel_rfl) (fun _ _ _ h => h) (Or.inl ⟨by rfl, fun W hW => ?_⟩) hHeld ?_
              · clear hW
                go_simp
              try simp only [Act.put, List.getElem_toArray, List.getElem_cons_zero, List.getElem_cons_succ, List.setIfInBounds_toArray, List.set_cons_zero, List.set_cons_succ]
              refine wpAnyH_done (by kernel_rfl) ?_ _
              have HG5 : Hid (wo.grownBy w5 none) := grown_trans HKI.out hHeld.2.1
              have HC5 : Hid (Cells w5 a b) := HC0.out.keptNone (grown_trans HGO.out HG5.out)
              clear hHeld O2 C2 K2 K5 HVX HCD HSJ
              have u2 : IntKind.u64.wrap (at' : Int) = (at' : Int) := by rw [IntKind.wrap_u64]; have := HAT.out; omega
              have u3 : IntKind.u64.wrap (nn : Int) = (nn : Int) := by rw [IntKind.wrap_u64]; have := HNN.out; omega
              have u4 : IntKind.u64.wrap (b.length : Int) = (b.length : Int) := by rw [IntKind.wrap_u64]; have := HBD.out; omega
              have u5 : IntKind.u64.wrap ((at' : Int) + (nn : Int)) = (SM : Int) := by rw [IntKind.wrap_u64]; have := HAT.out; have := HNN.out; have := HSM.out; omega
              have HHS : Hid (SM ≤ b.length) := hs
              go_wp2
              go_loopw [21, 23] (fun z j wq => ∃ m : Nat, m ≤ nn ∧ j = .int .i64 m ∧ z = .int .u32 (numAt b at' m : Int) ∧ wq = w5) (fun _ j _ => nn - (intOf j).toNat)
              case atStart => exact ⟨0, Nat.zero_le _, rfl, rfl, rfl⟩
              case round =>
                obtain ⟨m, hm, rfl, rfl, hwq⟩ := hrel
                subst hwq
                have hn4 := HNN.out
                have hSM := HSM.out
                have hS2 := HHS.out
                have hA4 := HAT.out.1
                by_cases hlt : m < nn
                · obtain ⟨bb, oo, rfl, h1⟩ := HC5.out.addr (k := at' + m) (by omega)
                  have hlt2 : at' + m < b.length := by omega
                  have c1 := h1 (at' + m) hlt2
                  have HNI : Hid (m ≤ 3 ∧ at' + m < b.length ∧ m < nn) := ⟨by omega, by omega, hlt⟩
                  have hm3 : m ≤ 3 := by omega
                  clear h1 hn4 hSM hS2
                  go_wp2
                  go_roundw
                  case rel => exact ⟨m + 1, by have := HNI.out; omega, by go_num, numAt_step b at' m HNI.out.1 HNI.out.2.1, by first | rfl | trivial⟩
                  case measure => have := HNI.out; simp [intOf]; omega
                · obtain rfl : m = nn := by omega
                  clear hn4 hSM hS2 hm hlt
                  go_wp2
                  go_roundw
                  case rel => exact ⟨1, by omega, by go_num, HG5.out⟩
                  case measure => simp [intOf]
            · have HVE : Hid (valueA [nmAt at', ldAt 1 (nn : Int)] l 0 b = .tuple #[.int .u32 0, .int .i64 2, .int .i64 0]) := by
                show _ = _
                rw [HPU.out nn 1 (by omega) HNN.out, HBT.out, if_neg (by simp)]
                simp only
                rw [Nat.zero_add, HSM.out]
                rw [if_neg hs]
              have HBD2 := bld_ldk 1 (nn : Int)
              have HLD := lit_duo (nmAt at') (ldAt 1 (nn : Int))
              have HVX : Hid (∀ (W : World) (D : Addr) (ab : Option Addr) (cb : Nat), CV W (some D) (flatG [nmAt at', ldAt 1 (nn : Int)]) → Cells W ab b → b.length ≤ cb → Calls Tryz.prog 11 #[.slice (some D) 2 2, .agg LA, .int .i64 0, .slice ab b.length cb] W fun e w' => e = .returned (.tuple #[.int .u32 0, .int .i64 2, .int .i64 0]) ∧ W.grownBy w' none) := fun W D ab cb h h2 h3 => by
                have := HVT.out [nmAt at', ldAt 1 (nn : Int)] W D ab cb rfl h (by intro x hx; simp only [List.mem_cons, List.not_mem_nil, or_false] at hx; rcases hx with rfl | rfl; exact HAT.out.1; exact Nat.zero_le _) h2 h3
                rw [HVE.out] at this
                exact this
              obtain ⟨NA, hNA⟩ : ∃ NA, (nmAt at').cells.toArray = NA := ⟨_, rfl⟩
              obtain ⟨ND, hND⟩ : ∃ ND, (ldAt 1 (nn : Int)).cells.toArray = ND := ⟨_, rfl⟩
              have HBN2 := HBN
              rw [hNA] at HBN2 HLD
              rw [hND] at HBD2 HLD
              clear hNA hND
              go_upto_region 14 with (first
                | (refine wpList_bld rfl 37 #[(0, .const (.int .i64 1)), (2, .tmp 53)] rfl #[(0, .int .i64 1), (2, .int .u32 (at' : Int))] (by kernel_rfl) (.agg NA) HBN2 ?_)
                | (refine wpList_bld rfl 37 #[(0, .const (.int .i64 3)), (5, .tmp 58), (4, .tmp 59)] rfl #[(0, .int .i64 3), (5, .int .i64 1), (4, .int .i64 (nn : Int))] (by kernel_rfl) (.agg ND) HBD2 ?_)
                | (refine wpList_lit (by rfl) 38 2 _ rfl #[(0, .agg NA), (1, .agg ND)] (by kernel_rfl) (flatG [nmAt at', ldAt 1 (nn : Int)]) 37 HLD ?_; intro D wj CD KJ))
              have HSJ : Hid (VAt wj.drew B 23 LA ∧ wi.grownBy wj.drew none) := ⟨(HVLI.out.kept KJ).kept (grown_drewN wj 1 none), grown_trans KJ (grown_drewN wj 1 none)⟩
              have HCD : Hid (∀ W, wj.grownBy W none → CV W (some ⟨D, 0, none⟩) (flatG [nmAt at', ldAt 1 (nn : Int)])) := fun W K => CD.keptNone K
              clear CD KJ c5 c6 f0 f1 f2
              refine wp_region_held_drew (S := fun W => VAt W B 23 LA ∧ wi.grownBy W none ∧ wj.grownBy W none) (by kernel_rfl) (⟨HSJ.out.1, HSJ.out.2, grown_drewN wj 1 none⟩) (fun hHeld => ?_)
              refine wpAnyH_take (i := 0) (v := .slice (some ⟨D, 0, none⟩) 2 2) rfl (by kernel_rfl) (by kernel_rfl) (by kernel_rfl) (fun _ _ _ h => h) (Or.inl ⟨by rfl, fun W hW => ?_⟩) hHeld ?_
              · clear hW
                go_simp
              try simp only [Act.put, List.getElem_toArray, List.getElem_cons_zero, List.setIfInBounds_toArray, List.set_cons_zero, List.set_cons_succ]
              refine wpAnyH_take (i := 1) (v := .agg (LA)) rfl (by kernel_rfl) (by kernel_rfl) (by kernel_rfl) (fun _ _ _ h => h) (yieldsIf_load_row (by rfl) _ _ rfl B rfl 23 (LA) _ (fun W hW => hW.1) Tryz.underlying23 rfl HLS) hHeld ?_
              try simp only [Act.put, List.getElem_toArray, List.getElem_cons_zero, List.getElem_cons_succ, List.setIfInBounds_toArray, List.set_cons_zero, List.set_cons_succ]
              refine wpAnyH_take (i := 2) (v := .slice a b.length ca) rfl (by kernel_rfl) (by kernel_rfl) (by kernel_rfl) (fun _ _ _ h => h) (Or.inl ⟨by rfl, fun W hW => ?_⟩) hHeld ?_
              · clear hW
                go_simp
              try simp only [Act.put, List.getElem_toArray, List.getElem_cons_zero, List.getElem_cons_succ, List.setIfInBounds_toArray, List.set_cons_zero, List.set_cons_succ]
              refine wpAnyH_ready (rs := [3]) (by kernel_rfl) (by simp) (AllReadyH.cons rfl (fun K hK => ?_) AllReadyH.nil)
              go_simp
              refine (HCB0.out _ (grown_trans HGI.out hHeld.2.1)).mono ?_
              rintro e w2 ⟨v2, rfl, O2, K2⟩
              obtain ⟨a2, c2, hv2, C2, hl2, -⟩ := cv_of_row O2
              subst hv2
              go_wp2_with fail
              refine hK.out _ _ (⟨hHeld.1.kept K2, grown_trans hHeld.2.1 K2, grown_trans hHeld.2.2 K2⟩) (fun hHeld => ?_)
              clear hK K
              try simp only [Act.put, List.getElem_toArray, List.getElem_cons_zero, List.getElem_cons_succ, List.setIfInBounds_toArray, List.set_cons_zero, List.set_cons_succ]
              refine wpAnyH_ready (rs := [4]) (by kernel_rfl) (by simp) (AllReadyH.cons rfl (fun K hK => ?_) AllReadyH.nil)
              go_simp
              refine (HVX.out _ _ _ _ (HCD.out _ hHeld.2.2) C2.cells hl2).mono ?_
              rintro e w5 ⟨rfl, K5⟩
              go_wp2_with fail
              refine hK.out _ _ (⟨hHeld.1.kept K5, grown_trans hHeld.2.1 K5, grown_trans hHeld.2.2 K5⟩) (fun hHeld => ?_)
              clear hK K
              try simp only [Act.put, List.getElem_toArray, List.getElem_cons_zero, List.getElem_cons_succ, List.setIfInBounds_toArray, List.set_cons_zero, List.set_cons_succ]
              refine wpAnyH_take (i := 5) (v := .tuple #[.int .u32 0, .int .i64 2, .int .i64 0]) rfl (by kernel_rfl) (by kernel_rfl) (by kernel_rfl) (fun _ _ _ h => h) (Or.inl ⟨by rfl, fun W hW => ?_⟩) hHeld ?_
              · clear hW
                go_simp
              try simp only [Act.put, List.getElem_toArray, List.getElem_cons_zero, List.getElem_cons_succ, List.setIfInBounds_toArray, List.set_cons_zero, List.set_cons_succ]
              refine wpAnyH_take (i := 6) (v := .int .u32 0) rfl (by kernel_rfl) (by kernel_rfl) (by kernel_rfl) (fun _ _ _ h => h) (Or.inl ⟨by rfl, fun W hW => ?_⟩) hHeld ?_
              · clear hW
                go_simp
              try simp only [Act.put, List.getElem_toArray, List.getElem_cons_zero, List.getElem_cons_succ, List.setIfInBounds_toArray, List.set_cons_zero, List.set_cons_succ]
              refine wpAnyH_take (i := 7) (v := .int .i64 2) rfl (by kernel_rfl) (by kernel_rfl) (by kernel_rfl) (fun _ _ _ h => h) (Or.inl ⟨by rfl, fun W hW => ?_⟩) hHeld ?_
              · clear hW
                go_simp
              try simp only [Act.put, List.getElem_toArray, List.getElem_cons_zero, List.getElem_cons_succ, List.setIfInBounds_toArray, List.set_cons_zero, List.set_cons_succ]
              refine wpAnyH_take (i := 8) (v := .int .i64 0) rfl (by kernel_rfl) (by kernel_rfl) (by kernel_rfl) (fun _ _ _ h => h) (Or.inl ⟨by rfl, fun W hW => ?_⟩) hHeld ?_
              · clear hW
                go_simp
              try simp only [Act.put, List.getElem_toArray, List.getElem_cons_zero, List.getElem_cons_succ, List.setIfInBounds_toArray, List.set_cons_zero, List.set_cons_succ]
              refine wpAnyH_take (i := 9) (v := .int .u32 0) rfl (by kernel_rfl) (by kernel_rfl) (by kernel_rfl) (fun _ _ _ h => h) (Or.inl ⟨by rfl, fun W hW => ?_⟩) hHeld ?_
              · clear hW
                go_simp
              try simp only [Act.put, List.getElem_toArray, List.getElem_cons_zero, List.getElem_cons_succ, List.setIfInBounds_toArray, List.set_cons_zero, List.set_cons_succ]
              refine wpAnyH_take (i := 10) (v := .int .i64 2) rfl (by kernel_rfl) (by kernel_rfl) (by kernel_rfl) (fun _ _ _ h => h) (Or.inl ⟨by rfl, fun W hW => ?_⟩) hHeld ?_
              · clear hW
                go_simp
              try simp only [Act.put, List.getElem_toArray, List.getElem_cons_zero, List.getElem_cons_succ, List.setIfInBounds_toArray, List.set_cons_zero, List.set_cons_succ]
              refine wpAnyH_take (i := 11) (v := .int .i64 0) rfl (by kernel_rfl) (by kernel_rfl) (by kernel_rfl) (fun _ _ _ h => h) (Or.inl ⟨by rfl, fun W hW => ?_⟩) hHeld ?_
              · clear hW
                go_simp
              try simp only [Act.put, List.getElem_toArray, List.getElem_cons_zero, List.getElem_cons_succ, List.setIfInBounds_toArray, List.set_cons_zero, List.set_cons_succ]
              refine wpAnyH_done (by kernel_rfl) ?_ _
              have HG5 : Hid (wo.grownBy w5 none) := grown_trans HKI.out hHeld.2.1
              have HC5 : Hid (Cells w5 a b) := HC0.out.keptNone (grown_trans HGO.out HG5.out)
              clear hHeld O2 C2 K2 K5 HVX HCD HSJ
              have u2 : IntKind.u64.wrap (at' : Int) = (at' : Int) := by rw [IntKind.wrap_u64]; have := HAT.out; omega
              have u3 : IntKind.u64.wrap (nn : Int) = (nn : Int) := by rw [IntKind.wrap_u64]; have := HNN.out; omega
              have u4 : IntKind.u64.wrap (b.length : Int) = (b.length : Int) := by rw [IntKind.wrap_u64]; have := HBD.out; omega
              have u5 : IntKind.u64.wrap ((at' : Int) + (nn : Int)) = (SM : Int) := by rw [IntKind.wrap_u64]; have := HAT.out; have := HNN.out; have := HSM.out; omega
              have hs2 : decide (SM ≤ b.length) = false := decide_eq_false hs
              go_wp2
              go_roundw
              case rel => exact ⟨1, by omega, by go_num, HG5.out⟩
              case measure => simp [intOf]
          · rw [show ((1 : Nat) : Int) = 1 from rfl]
            obtain ⟨bs, hbs⟩ : ∃ bs : Nat, v.pos = bs := ⟨_, rfl⟩
            rw [hbs] at c5
            have HBE : Hid (baseM v 2 = (bs, decide (v.net = 4))) := by show _ = _; rw [← hbs]; rfl
            have HBS : Hid (bs ≤ 65535) := by show bs ≤ 65535; have := HBD.out; omega
            obtain ⟨PS, hPS⟩ : ∃ PS : Nat, bs + at' = PS := ⟨_, rfl⟩
            have HPS2 : Hid (bs + at' = PS) := hPS
            obtain ⟨SM, hSM⟩ : ∃ SM : Nat, PS + nn = SM := ⟨_, rfl⟩
            have HSM : Hid (PS + nn = SM) := hSM
            clear hbs hPS hSM
            by_cases hnet : v.net = 4
            · have e4 : ((v.net : Int) == 4) = true := by rw [beq_iff_eq]; omega
              have HBT : Hid (baseM v 2 = (bs, true)) := by show _ = _; rw [HBE.out, decide_eq_true hnet]
              by_cases hs : SM ≤ b.length
              · have HVE : Hid (valueA [nmAt at', ldAt 2 (nn : Int)] l 0 b = .tuple #[.int .u32 (numAt b PS nn : Int), .int .i64 1, .int .i64 0]) := by
                  show _ = _
                  rw [HPU.out nn 2 (by omega) HNN.out, HBT.out, if_neg (by simp)]
                  simp only
                  rw [HPS2.out, HSM.out]
                  rw [if_pos hs]
                have HBD2 := bld_ldk 2 (nn : Int)
                have HLD := lit_duo (nmAt at') (ldAt 2 (nn : Int))
                have HVX : Hid (∀ (W : World) (D : Addr) (ab : Option Addr) (cb : Nat), CV W (some D) (flatG [nmAt at', ldAt 2 (nn : Int)]) → Cells W ab b → b.length ≤ cb → Calls Tryz.prog 11 #[.slice (some D) 2 2, .agg LA, .int .i64 0, .slice ab b.length cb] W fun e w' => e = .returned (.tuple #[.int .u32 (numAt b PS nn : Int), .int .i64 1, .int .i64 0]) ∧ W.grownBy w' none) := fun W D ab cb h h2 h3 => by
                  have := HVT.out [nmAt at', ldAt 2 (nn : Int)] W D ab cb rfl h (by intro x hx; simp only [List.mem_cons, List.not_mem_nil, or_false] at hx; rcases hx with rfl | rfl; exact HAT.out.1; exact Nat.zero_le _) h2 h3
                  rw [HVE.out] at this
                  exact this
                obtain ⟨NA, hNA⟩ : ∃ NA, (nmAt at').cells.toArray = NA := ⟨_, rfl⟩
                obtain ⟨ND, hND⟩ : ∃ ND, (ldAt 2 (nn : Int)).cells.toArray = ND := ⟨_, rfl⟩
                have HBN2 := HBN
                rw [hNA] at HBN2 HLD
                rw [hND] at HBD2 HLD
                clear hNA hND
                go_upto_region 14 with (first
                  | (refine wpList_bld rfl 37 #[(0, .const (.int .i64 1)), (2, .tmp 53)] rfl #[(0, .int .i64 1), (2, .int .u32 (at' : Int))] (by kernel_rfl) (.agg NA) HBN2 ?_)
                  | (refine wpList_bld rfl 37 #[(0, .const (.int .i64 3)), (5, .tmp 58), (4, .tmp 59)] rfl #[(0, .int .i64 3), (5, .int .i64 2), (4, .int .i64 (nn : Int))] (by kernel_rfl) (.agg ND) HBD2 ?_)
                  | (refine wpList_lit (by rfl) 38 2 _ rfl #[(0, .agg NA), (1, .agg ND)] (by kernel_rfl) (flatG [nmAt at', ldAt 2 (nn : Int)]) 37 HLD ?_; intro D wj CD KJ))
                have HSJ : Hid (VAt wj.drew B 23 LA ∧ wi.grownBy wj.drew none) := ⟨(HVLI.out.kept KJ).kept (grown_drewN wj 1 none), grown_trans KJ (grown_drewN wj 1 none)⟩
                have HCD : Hid (∀ W, wj.grownBy W none → CV W (some ⟨D, 0, none⟩) (flatG [nmAt at', ldAt 2 (nn : Int)])) := fun W K => CD.keptNone K
                clear CD KJ c5 c6 f0 f1 f2
                refine wp_region_held_drew (S := fun W => VAt W B 23 LA ∧ wi.grownBy W none ∧ wj.grownBy W none) (by kernel_rfl) (⟨HSJ.out.1, HSJ.out.2, grown_drewN wj 1 none⟩) (fun hHeld => ?_)
                refine wpAnyH_take (i := 0) (v := .slice (some ⟨D, 0, none⟩) 2 2) rfl (by kernel_rfl) (by kernel_rfl) (by kernel_rfl) (fun _ _ _ h => h) (Or.inl ⟨by rfl, fun W hW => ?_⟩) hHeld ?_
                · clear hW
                  go_simp
                try simp only [Act.put, List.getElem_toArray, List.getElem_cons_zero, List.setIfInBounds_toArray, List.set_cons_zero, List.set_cons_succ]
                refine wpAnyH_take (i := 1) (v := .agg (LA)) rfl (by kernel_rfl) (by kernel_rfl) (by kernel_rfl) (fun _ _ _ h => h) (yieldsIf_load_row (by rfl) _ _ rfl B rfl 23 (LA) _ (fun W hW => hW.1) Tryz.underlying23 rfl HLS) hHeld ?_
                try simp only [Act.put, List.getElem_toArray, List.getElem_cons_zero, List.getElem_cons_succ, List.setIfInBounds_toArray, List.set_cons_zero, List.set_cons_succ]
                refine wpAnyH_take (i := 2) (v := .slice a b.length ca) rfl (by kernel_rfl) (by kernel_rfl) (by kernel_rfl) (fun _ _ _ h => h) (Or.inl ⟨by rfl, fun W hW => ?_⟩) hHeld ?_
                · clear hW
                  go_simp
                try simp only [Act.put, List.getElem_toArray, List.getElem_cons_zero, List.getElem_cons_succ, List.setIfInBounds_toArray, List.set_cons_zero, List.set_cons_succ]
                refine wpAnyH_ready (rs := [3]) (by kernel_rfl) (by simp) (AllReadyH.cons rfl (fun K hK => ?_) AllReadyH.nil)
                go_simp
                refine (HCB0.out _ (grown_trans HGI.out hHeld.2.1)).mono ?_
                rintro e w2 ⟨v2, rfl, O2, K2⟩
                obtain ⟨a2, c2, hv2, C2, hl2, -⟩ := cv_of_row O2
                subst hv2
                go_wp2_with fail
                refine hK.out _ _ (⟨hHeld.1.kept K2, grown_trans hHeld.2.1 K2, grown_trans hHeld.2.2 K2⟩) (fun hHeld => ?_)
                clear hK K
                try simp only [Act.put, List.getElem_toArray, List.getElem_cons_zero, List.getElem_cons_succ, List.setIfInBounds_toArray, List.set_cons_zero, List.set_cons_succ]
                refine wpAnyH_ready (rs := [4]) (by kernel_rfl) (by simp) (AllReadyH.cons rfl (fun K hK => ?_) AllReadyH.nil)
                go_simp
                refine (HVX.out _ _ _ _ (HCD.out _ hHeld.2.2) C2.cells hl2).mono ?_
                rintro e w5 ⟨rfl, K5⟩
                go_wp2_with fail
                refine hK.out _ _ (⟨hHeld.1.kept K5, grown_trans hHeld.2.1 K5, grown_trans hHeld.2.2 K5⟩) (fun hHeld => ?_)
                clear hK K
                try simp only [Act.put, List.getElem_toArray, List.getElem_cons_zero, List.getElem_cons_succ, List.setIfInBounds_toArray, List.set_cons_zero, List.set_cons_succ]
                refine wpAnyH_take (i := 5) (v := .tuple #[.int .u32 (numAt b PS nn : Int), .int .i64 1, .int .i64 0]) rfl (by kernel_rfl) (by kernel_rfl) (by kernel_rfl) (fun _ _ _ h => h) (Or.inl ⟨by rfl, fun W hW => ?_⟩) hHeld ?_
                · clear hW
                  go_simp
                try simp only [Act.put, List.getElem_toArray, List.getElem_cons_zero, List.getElem_cons_succ, List.setIfInBounds_toArray, List.set_cons_zero, List.set_cons_succ]
                refine wpAnyH_take (i := 6) (v := .int .u32 (numAt b PS nn : Int)) rfl (by kernel_rfl) (by kernel_rfl) (by kernel_rfl) (fun _ _ _ h => h) (Or.inl ⟨by rfl, fun W hW => ?_⟩) hHeld ?_
                · clear hW
                  go_simp
                try simp only [Act.put, List.getElem_toArray, List.getElem_cons_zero, List.getElem_cons_succ, List.setIfInBounds_toArray, List.set_cons_zero, List.set_cons_succ]
                refine wpAnyH_take (i := 7) (v := .int .i64 1) rfl (by kernel_rfl) (by kernel_rfl) (by kernel_rfl) (fun _ _ _ h => h) (Or.inl ⟨by rfl, fun W hW => ?_⟩) hHeld ?_
                · clear hW
                  go_simp
                try simp only [Act.put, List.getElem_toArray, List.getElem_cons_zero, List.getElem_cons_succ, List.setIfInBounds_toArray, List.set_cons_zero, List.set_cons_succ]
                refine wpAnyH_take (i := 8) (v := .int .i64 0) rfl (by kernel_rfl) (by kernel_rfl) (by kernel_rfl) (fun _ _ _ h => h) (Or.inl ⟨by rfl, fun W hW => ?_⟩) hHeld ?_
                · clear hW
                  go_simp
                try simp only [Act.put, List.getElem_toArray, List.getElem_cons_zero, List.getElem_cons_succ, List.setIfInBounds_toArray, List.set_cons_zero, List.set_cons_succ]
                refine wpAnyH_take (i := 9) (v := .int .u32 (numAt b PS nn : Int)) rfl (by kernel_rfl) (by kernel_rfl) (by kernel_rfl) (fun _ _ _ h => h) (Or.inl ⟨by rfl, fun W hW => ?_⟩) hHeld ?_
                · clear hW
                  go_simp
                try simp only [Act.put, List.getElem_toArray, List.getElem_cons_zero, List.getElem_cons_succ, List.setIfInBounds_toArray, List.set_cons_zero, List.set_cons_succ]
                refine wpAnyH_take (i := 10) (v := .int .i64 1) rfl (by kernel_rfl) (by kernel_rfl) (by kernel_rfl) (fun _ _ _ h => h) (Or.inl ⟨by rfl, fun W hW => ?_⟩) hHeld ?_
                · clear hW
                  go_simp
                try simp only [Act.put, List.getElem_toArray, List.getElem_cons_zero, List.getElem_cons_succ, List.setIfInBounds_toArray, List.set_cons_zero, List.set_cons_succ]
                refine wpAnyH_take (i := 11) (v := .int .i64 0) rfl (by kernel_rfl) (by kernel_rfl) (by kernel_rfl) (fun _ _ _ h => h) (Or.inl ⟨by rfl, fun W hW => ?_⟩) hHeld ?_
                · clear hW
                  go_simp
                try simp only [Act.put, List.getElem_toArray, List.getElem_cons_zero, List.getElem_cons_succ, List.setIfInBounds_toArray, List.set_cons_zero, List.set_cons_succ]
                refine wpAnyH_done (by kernel_rfl) ?_ _
                have HG5 : Hid (wo.grownBy w5 none) := grown_trans HKI.out hHeld.2.1
                have HC5 : Hid (Cells w5 a b) := HC0.out.keptNone (grown_trans HGO.out HG5.out)
                clear hHeld O2 C2 K2 K5 HVX HCD HSJ
                have u2 : IntKind.u64.wrap (at' : Int) = (at' : Int) := by rw [IntKind.wrap_u64]; have := HAT.out; omega
                have u3 : IntKind.u64.wrap (nn : Int) = (nn : Int) := by rw [IntKind.wrap_u64]; have := HNN.out; omega
                have u4 : IntKind.u64.wrap (b.length : Int) = (b.length : Int) := by rw [IntKind.wrap_u64]; have := HBD.out; omega
                have u1 : IntKind.u64.wrap (bs : Int) = (bs : Int) := by rw [IntKind.wrap_u64]; have := HBS.out; omega
                have u5 : IntKind.u64.wrap ((bs : Int) + (at' : Int)) = (PS : Int) := by rw [IntKind.wrap_u64]; have := HAT.out; have := HBS.out; have := HPS2.out; omega
                have u6 : IntKind.u64.wrap ((PS : Int) + (nn : Int)) = (SM : Int) := by rw [IntKind.wrap_u64]; have := HAT.out; have := HBS.out; have := HPS2.out; have := HNN.out; have := HSM.out; omega
                have HHS : Hid (SM ≤ b.length) := hs
                go_wp2
                go_loopw [21, 23] (fun z j wq => ∃ m : Nat, m ≤ nn ∧ j = .int .i64 m ∧ z = .int .u32 (numAt b PS m : Int) ∧ wq = w5) (fun _ j _ => nn - (intOf j).toNat)
                case atStart => exact ⟨0, Nat.zero_le _, rfl, rfl, rfl⟩
                case round =>
                  obtain ⟨m, hm, rfl, rfl, hwq⟩ := hrel
                  subst hwq
                  have hn4 := HNN.out
                  have hSM := HSM.out
                  have hS2 := HHS.out
                  have hA4 := HAT.out.1
                  by_cases hlt : m < nn
                  · obtain ⟨bb, oo, rfl, h1⟩ := HC5.out.addr (k := PS + m) (by omega)
                    have hlt2 : PS + m < b.length := by omega
                    have hps := HPS2.out
                    have hlt3 : bs + at' + m < b.length := by omega
                    have hbs4 := HBS.out
                    have c1 : wr.cell? ⟨bb, oo + (bs + at' + m), none⟩ = some (.int .u8 (b[PS + m].toNat : Int)) := by
                      have h := h1 (PS + m) hlt2
                      rw [show oo + (PS + m) = oo + (bs + at' + m) by omega] at h
                      exact h
                    clear hps
                    have HNI : Hid (m ≤ 3 ∧ PS + m < b.length ∧ m < nn) := ⟨by omega, by omega, hlt⟩
                    have hm3 : m ≤ 3 := by omega
                    clear h1 hn4 hSM hS2
                    go_wp2
                    go_roundw
                    case rel => exact ⟨m + 1, by have := HNI.out; omega, by go_num, numAt_step b PS m HNI.out.1 HNI.out.2.1, by first | rfl | trivial⟩
                    case measure => have := HNI.out; simp [intOf]; omega
                  · obtain rfl : m = nn := by omega
                    clear hn4 hSM hS2 hm hlt
                    go_wp2
                    go_roundw
                    case rel => exact ⟨2, by omega, by go_num, HG5.out⟩
                    case measure => simp [intOf]
              · have HVE : Hid (valueA [nmAt at', ldAt 2 (nn : Int)] l 0 b = .tuple #[.int .u32 0, .int .i64 2, .int .i64 0]) := by
                  show _ = _
                  rw [HPU.out nn 2 (by omega) HNN.out, HBT.out, if_neg (by simp)]
                  simp only
                  rw [HPS2.out, HSM.out]
                  rw [if_neg hs]
                have HBD2 := bld_ldk 2 (nn : Int)
                have HLD := lit_duo (nmAt at') (ldAt 2 (nn : Int))
                have HVX : Hid (∀ (W : World) (D : Addr) (ab : Option Addr) (cb : Nat), CV W (some D) (flatG [nmAt at', ldAt 2 (nn : Int)]) → Cells W ab b → b.length ≤ cb → Calls Tryz.prog 11 #[.slice (some D) 2 2, .agg LA, .int .i64 0, .slice ab b.length cb] W fun e w' => e = .returned (.tuple #[.int .u32 0, .int .i64 2, .int .i64 0]) ∧ W.grownBy w' none) := fun W D ab cb h h2 h3 => by
                  have := HVT.out [nmAt at', ldAt 2 (nn : Int)] W D ab cb rfl h (by intro x hx; simp only [List.mem_cons, List.not_mem_nil, or_false] at hx; rcases hx with rfl | rfl; exact HAT.out.1; exact Nat.zero_le _) h2 h3
                  rw [HVE.out] at this
                  exact this
                obtain ⟨NA, hNA⟩ : ∃ NA, (nmAt at').cells.toArray = NA := ⟨_, rfl⟩
                obtain ⟨ND, hND⟩ : ∃ ND, (ldAt 2 (nn : Int)).cells.toArray = ND := ⟨_, rfl⟩
                have HBN2 := HBN
                rw [hNA] at HBN2 HLD
                rw [hND] at HBD2 HLD
                clear hNA hND
                go_upto_region 14 with (first
                  | (refine wpList_bld rfl 37 #[(0, .const (.int .i64 1)), (2, .tmp 53)] rfl #[(0, .int .i64 1), (2, .int .u32 (at' : Int))] (by kernel_rfl) (.agg NA) HBN2 ?_)
                  | (refine wpList_bld rfl 37 #[(0, .const (.int .i64 3)), (5, .tmp 58), (4, .tmp 59)] rfl #[(0, .int .i64 3), (5, .int .i64 2), (4, .int .i64 (nn : Int))] (by kernel_rfl) (.agg ND) HBD2 ?_)
                  | (refine wpList_lit (by rfl) 38 2 _ rfl #[(0, .agg NA), (1, .agg ND)] (by kernel_rfl) (flatG [nmAt at', ldAt 2 (nn : Int)]) 37 HLD ?_; intro D wj CD KJ))
                have HSJ : Hid (VAt wj.drew B 23 LA ∧ wi.grownBy wj.drew none) := ⟨(HVLI.out.kept KJ).kept (grown_drewN wj 1 none), grown_trans KJ (grown_drewN wj 1 none)⟩
                have HCD : Hid (∀ W, wj.grownBy W none → CV W (some ⟨D, 0, none⟩) (flatG [nmAt at', ldAt 2 (nn : Int)])) := fun W K => CD.keptNone K
                clear CD KJ c5 c6 f0 f1 f2
                refine wp_region_held_drew (S := fun W => VAt W B 23 LA ∧ wi.grownBy W none ∧ wj.grownBy W none) (by kernel_rfl) (⟨HSJ.out.1, HSJ.out.2, grown_drewN wj 1 none⟩) (fun hHeld => ?_)
                refine wpAnyH_take (i := 0) (v := .slice (some ⟨D, 0, none⟩) 2 2) rfl (by kernel_rfl) (by kernel_rfl) (by kernel_rfl) (fun _ _ _ h => h) (Or.inl ⟨by rfl, fun W hW => ?_⟩) hHeld ?_
                · clear hW
                  go_simp
                try simp only [Act.put, List.getElem_toArray, List.getElem_cons_zero, List.setIfInBounds_toArray, List.set_cons_zero, List.set_cons_succ]
                refine wpAnyH_take (i := 1) (v := .agg (LA)) rfl (by kernel_rfl) (by kernel_rfl) (by kernel_rfl) (fun _ _ _ h => h) (yieldsIf_load_row (by rfl) _ _ rfl B rfl 23 (LA) _ (fun W hW => hW.1) Tryz.underlying23 rfl HLS) hHeld ?_
                try simp only [Act.put, List.getElem_toArray, List.getElem_cons_zero, List.getElem_cons_succ, List.setIfInBounds_toArray, List.set_cons_zero, List.set_cons_succ]
                refine wpAnyH_take (i := 2) (v := .slice a b.length ca) rfl (by kernel_rfl) (by kernel_rfl) (by kernel_rfl) (fun _ _ _ h => h) (Or.inl ⟨by rfl, fun W hW => ?_⟩) hHeld ?_
                · clear hW
                  go_simp
                try simp only [Act.put, List.getElem_toArray, List.getElem_cons_zero, List.getElem_cons_succ, List.setIfInBounds_toArray, List.set_cons_zero, List.set_cons_succ]
                refine wpAnyH_ready (rs := [3]) (by kernel_rfl) (by simp) (AllReadyH.cons rfl (fun K hK => ?_) AllReadyH.nil)
                go_simp
                refine (HCB0.out _ (grown_trans HGI.out hHeld.2.1)).mono ?_
                rintro e w2 ⟨v2, rfl, O2, K2⟩
                obtain ⟨a2, c2, hv2, C2, hl2, -⟩ := cv_of_row O2
                subst hv2
                go_wp2_with fail
                refine hK.out _ _ (⟨hHeld.1.kept K2, grown_trans hHeld.2.1 K2, grown_trans hHeld.2.2 K2⟩) (fun hHeld => ?_)
                clear hK K
                try simp only [Act.put, List.getElem_toArray, List.getElem_cons_zero, List.getElem_cons_succ, List.setIfInBounds_toArray, List.set_cons_zero, List.set_cons_succ]
                refine wpAnyH_ready (rs := [4]) (by kernel_rfl) (by simp) (AllReadyH.cons rfl (fun K hK => ?_) AllReadyH.nil)
                go_simp
                refine (HVX.out _ _ _ _ (HCD.out _ hHeld.2.2) C2.cells hl2).mono ?_
                rintro e w5 ⟨rfl, K5⟩
                go_wp2_with fail
                refine hK.out _ _ (⟨hHeld.1.kept K5, grown_trans hHeld.2.1 K5, grown_trans hHeld.2.2 K5⟩) (fun hHeld => ?_)
                clear hK K
                try simp only [Act.put, List.getElem_toArray, List.getElem_cons_zero, List.getElem_cons_succ, List.setIfInBounds_toArray, List.set_cons_zero, List.set_cons_succ]
                refine wpAnyH_take (i := 5) (v := .tuple #[.int .u32 0, .int .i64 2, .int .i64 0]) rfl (by kernel_rfl) (by kernel_rfl) (by kernel_rfl) (fun _ _ _ h => h) (Or.inl ⟨by rfl, fun W hW => ?_⟩) hHeld ?_
                · clear hW
                  go_simp
                try simp only [Act.put, List.getElem_toArray, List.getElem_cons_zero, List.getElem_cons_succ, List.setIfInBounds_toArray, List.set_cons_zero, List.set_cons_succ]
                refine wpAnyH_take (i := 6) (v := .int .u32 0) rfl (by kernel_rfl) (by kernel_rfl) (by kernel_rfl) (fun _ _ _ h => h) (Or.inl ⟨by rfl, fun W hW => ?_⟩) hHeld ?_
                · clear hW
                  go_simp
                try simp only [Act.put, List.getElem_toArray, List.getElem_cons_zero, List.getElem_cons_succ, List.setIfInBounds_toArray, List.set_cons_zero, List.set_cons_succ]
                refine wpAnyH_take (i := 7) (v := .int .i64 2) rfl (by kernel_rfl) (by kernel_rfl) (by kernel_rfl) (fun _ _ _ h => h) (Or.inl ⟨by rfl, fun W hW => ?_⟩) hHeld ?_
                · clear hW
                  go_simp
                try simp only [Act.put, List.getElem_toArray, List.getElem_cons_zero, List.getElem_cons_succ, List.setIfInBounds_toArray, List.set_cons_zero, List.set_cons_succ]
                refine wpAnyH_take (i := 8) (v := .int .i64 0) rfl (by kernel_rfl) (by kernel_rfl) (by kernel_rfl) (fun _ _ _ h => h) (Or.inl ⟨by rfl, fun W hW => ?_⟩) hHeld ?_
                · clear hW
                  go_simp
                try simp only [Act.put, List.getElem_toArray, List.getElem_cons_zero, List.getElem_cons_succ, List.setIfInBounds_toArray, List.set_cons_zero, List.set_cons_succ]
                refine wpAnyH_take (i := 9) (v := .int .u32 0) rfl (by kernel_rfl) (by kernel_rfl) (by kernel_rfl) (fun _ _ _ h => h) (Or.inl ⟨by rfl, fun W hW => ?_⟩) hHeld ?_
                · clear hW
                  go_simp
                try simp only [Act.put, List.getElem_toArray, List.getElem_cons_zero, List.getElem_cons_succ, List.setIfInBounds_toArray, List.set_cons_zero, List.set_cons_succ]
                refine wpAnyH_take (i := 10) (v := .int .i64 2) rfl (by kernel_rfl) (by kernel_rfl) (by kernel_rfl) (fun _ _ _ h => h) (Or.inl ⟨by rfl, fun W hW => ?_⟩) hHeld ?_
                · clear hW
                  go_simp
                try simp only [Act.put, List.getElem_toArray, List.getElem_cons_zero, List.getElem_cons_succ, List.setIfInBounds_toArray, List.set_cons_zero, List.set_cons_succ]
                refine wpAnyH_take (i := 11) (v := .int .i64 0) rfl (by kernel_rfl) (by kernel_rfl) (by kernel_rfl) (fun _ _ _ h => h) (Or.inl ⟨by rfl, fun W hW => ?_⟩) hHeld ?_
                · clear hW
                  go_simp
                try simp only [Act.put, List.getElem_toArray, List.getElem_cons_zero, List.getElem_cons_succ, List.setIfInBounds_toArray, List.set_cons_zero, List.set_cons_succ]
                refine wpAnyH_done (by kernel_rfl) ?_ _
                have HG5 : Hid (wo.grownBy w5 none) := grown_trans HKI.out hHeld.2.1
                have HC5 : Hid (Cells w5 a b) := HC0.out.keptNone (grown_trans HGO.out HG5.out)
                clear hHeld O2 C2 K2 K5 HVX HCD HSJ
                have u2 : IntKind.u64.wrap (at' : Int) = (at' : Int) := by rw [IntKind.wrap_u64]; have := HAT.out; omega
                have u3 : IntKind.u64.wrap (nn : Int) = (nn : Int) := by rw [IntKind.wrap_u64]; have := HNN.out; omega
                have u4 : IntKind.u64.wrap (b.length : Int) = (b.length : Int) := by rw [IntKind.wrap_u64]; have := HBD.out; omega
                have u1 : IntKind.u64.wrap (bs : Int) = (bs : Int) := by rw [IntKind.wrap_u64]; have := HBS.out; omega
                have u5 : IntKind.u64.wrap ((bs : Int) + (at' : Int)) = (PS : Int) := by rw [IntKind.wrap_u64]; have := HAT.out; have := HBS.out; have := HPS2.out; omega
                have u6 : IntKind.u64.wrap ((PS : Int) + (nn : Int)) = (SM : Int) := by rw [IntKind.wrap_u64]; have := HAT.out; have := HBS.out; have := HPS2.out; have := HNN.out; have := HSM.out; omega
                have hs2 : decide (SM ≤ b.length) = false := decide_eq_false hs
                go_wp2
                go_roundw
                case rel => exact ⟨2, by omega, by go_num, HG5.out⟩
                case measure => simp [intOf]
            · have e4 : ((v.net : Int) == 4) = false := by rw [beq_eq_false_iff_ne]; omega
              have HVE : Hid (valueA [nmAt at', ldAt 2 (nn : Int)] l 0 b = .tuple #[.int .u32 0, .int .i64 0, .int .i64 0]) := by
                show _ = _
                rw [HPU.out nn 2 (by omega) HNN.out, HBE.out, decide_eq_false hnet]
                rfl
              clear hnet
              have HBD2 := bld_ldk 2 (nn : Int)
              have HLD := lit_duo (nmAt at') (ldAt 2 (nn : Int))
              have HVX : Hid (∀ (W : World) (D : Addr) (ab : Option Addr) (cb : Nat), CV W (some D) (flatG [nmAt at', ldAt 2 (nn : Int)]) → Cells W ab b → b.length ≤ cb → Calls Tryz.prog 11 #[.slice (some D) 2 2, .agg LA, .int .i64 0, .slice ab b.length cb] W fun e w' => e = .returned (.tuple #[.int .u32 0, .int .i64 0, .int .i64 0]) ∧ W.grownBy w' none) := fun W D ab cb h h2 h3 => by
                have := HVT.out [nmAt at', ldAt 2 (nn : Int)] W D ab cb rfl h (by intro x hx; simp only [List.mem_cons, List.not_mem_nil, or_false] at hx; rcases hx with rfl | rfl; exact HAT.out.1; exact Nat.zero_le _) h2 h3
                rw [HVE.out] at this
                exact this
              obtain ⟨NA, hNA⟩ : ∃ NA, (nmAt at').cells.toArray = NA := ⟨_, rfl⟩
              obtain ⟨ND, hND⟩ : ∃ ND, (ldAt 2 (nn : Int)).cells.toArray = ND := ⟨_, rfl⟩
              have HBN2 := HBN
              rw [hNA] at HBN2 HLD
              rw [hND] at HBD2 HLD
              clear hNA hND
              go_upto_region 14 with (first
                | (refine wpList_bld rfl 37 #[(0, .const (.int .i64 1)), (2, .tmp 53)] rfl #[(0, .int .i64 1), (2, .int .u32 (at' : Int))] (by kernel_rfl) (.agg NA) HBN2 ?_)
                | (refine wpList_bld rfl 37 #[(0, .const (.int .i64 3)), (5, .tmp 58), (4, .tmp 59)] rfl #[(0, .int .i64 3), (5, .int .i64 2), (4, .int .i64 (nn : Int))] (by kernel_rfl) (.agg ND) HBD2 ?_)
                | (refine wpList_lit (by rfl) 38 2 _ rfl #[(0, .agg NA), (1, .agg ND)] (by kernel_rfl) (flatG [nmAt at', ldAt 2 (nn : Int)]) 37 HLD ?_; intro D wj CD KJ))
              have HSJ : Hid (VAt wj.drew B 23 LA ∧ wi.grownBy wj.drew none) := ⟨(HVLI.out.kept KJ).kept (grown_drewN wj 1 none), grown_trans KJ (grown_drewN wj 1 none)⟩
              have HCD : Hid (∀ W, wj.grownBy W none → CV W (some ⟨D, 0, none⟩) (flatG [nmAt at', ldAt 2 (nn : Int)])) := fun W K => CD.keptNone K
              clear CD KJ c5 c6 f0 f1 f2
              refine wp_region_held_drew (S := fun W => VAt W B 23 LA ∧ wi.grownBy W none ∧ wj.grownBy W none) (by kernel_rfl) (⟨HSJ.out.1, HSJ.out.2, grown_drewN wj 1 none⟩) (fun hHeld => ?_)
              refine wpAnyH_take (i := 0) (v := .slice (some ⟨D, 0, none⟩) 2 2) rfl (by kernel_rfl) (by kernel_rfl) (by kernel_rfl) (fun _ _ _ h => h) (Or.inl ⟨by rfl, fun W hW => ?_⟩) hHeld ?_
              · clear hW
                go_simp
              try simp only [Act.put, List.getElem_toArray, List.getElem_cons_zero, List.setIfInBounds_toArray, List.set_cons_zero, List.set_cons_succ]
              refine wpAnyH_take (i := 1) (v := .agg (LA)) rfl (by kernel_rfl) (by kernel_rfl) (by kernel_rfl) (fun _ _ _ h => h) (yieldsIf_load_row (by rfl) _ _ rfl B rfl 23 (LA) _ (fun W hW => hW.1) Tryz.underlying23 rfl HLS) hHeld ?_
              try simp only [Act.put, List.getElem_toArray, List.getElem_cons_zero, List.getElem_cons_succ, List.setIfInBounds_toArray, List.set_cons_zero, List.set_cons_succ]
              refine wpAnyH_take (i := 2) (v := .slice a b.length ca) rfl (by kernel_rfl) (by kernel_rfl) (by kernel_rfl) (fun _ _ _ h => h) (Or.inl ⟨by rfl, fun W hW => ?_⟩) hHeld ?_
              · clear hW
                go_simp
              try simp only [Act.put, List.getElem_toArray, List.getElem_cons_zero, List.getElem_cons_succ, List.setIfInBounds_toArray, List.set_cons_zero, List.set_cons_succ]
              refine wpAnyH_ready (rs := [3]) (by kernel_rfl) (by simp) (AllReadyH.cons rfl (fun K hK => ?_) AllReadyH.nil)
              go_simp
              refine (HCB0.out _ (grown_trans HGI.out hHeld.2.1)).mono ?_
              rintro e w2 ⟨v2, rfl, O2, K2⟩
              obtain ⟨a2, c2, hv2, C2, hl2, -⟩ := cv_of_row O2
              subst hv2
              go_wp2_with fail
              refine hK.out _ _ (⟨hHeld.1.kept K2, grown_trans hHeld.2.1 K2, grown_trans hHeld.2.2 K2⟩) (fun hHeld => ?_)
              clear hK K
              try simp only [Act.put, List.getElem_toArray, List.getElem_cons_zero, List.getElem_cons_succ, List.setIfInBounds_toArray, List.set_cons_zero, List.set_cons_succ]
              refine wpAnyH_ready (rs := [4]) (by kernel_rfl) (by simp) (AllReadyH.cons rfl (fun K hK => ?_) AllReadyH.nil)
              go_simp
              refine (HVX.out _ _ _ _ (HCD.out _ hHeld.2.2) C2.cells hl2).mono ?_
              rintro e w5 ⟨rfl, K5⟩
              go_wp2_with fail
              refine hK.out _ _ (⟨hHeld.1.kept K5, grown_trans hHeld.2.1 K5, grown_trans hHeld.2.2 K5⟩) (fun hHeld => ?_)
              clear hK K
              try simp only [Act.put, List.getElem_toArray, List.getElem_cons_zero, List.getElem_cons_succ, List.setIfInBounds_toArray, List.set_cons_zero, List.set_cons_succ]
              refine wpAnyH_take (i := 5) (v := .tuple #[.int .u32 0, .int .i64 0, .int .i64 0]) rfl (by kernel_rfl) (by kernel_rfl) (by kernel_rfl) (fun _ _ _ h => h) (Or.inl ⟨by rfl, fun W hW => ?_⟩) hHeld ?_
              · clear hW
                go_simp
              try simp only [Act.put, List.getElem_toArray, List.getElem_cons_zero, List.getElem_cons_succ, List.setIfInBounds_toArray, List.set_cons_zero, List.set_cons_succ]
              refine wpAnyH_take (i := 6) (v := .int .u32 0) rfl (by kernel_rfl) (by kernel_rfl) (by kernel_rfl) (fun _ _ _ h => h) (Or.inl ⟨by rfl, fun W hW => ?_⟩) hHeld ?_
              · clear hW
                go_simp
              try simp only [Act.put, List.getElem_toArray, List.getElem_cons_zero, List.getElem_cons_succ, List.setIfInBounds_toArray, List.set_cons_zero, List.set_cons_succ]
              refine wpAnyH_take (i := 7) (v := .int .i64 0) rfl (by kernel_rfl) (by kernel_rfl) (by kernel_rfl) (fun _ _ _ h => h) (Or.inl ⟨by rfl, fun W hW => ?_⟩) hHeld ?_
              · clear hW
                go_simp
              try simp only [Act.put, List.getElem_toArray, List.getElem_cons_zero, List.getElem_cons_succ, List.setIfInBounds_toArray, List.set_cons_zero, List.set_cons_succ]
              refine wpAnyH_take (i := 8) (v := .int .i64 0) rfl (by kernel_rfl) (by kernel_rfl) (by kernel_rfl) (fun _ _ _ h => h) (Or.inl ⟨by rfl, fun W hW => ?_⟩) hHeld ?_
              · clear hW
                go_simp
              try simp only [Act.put, List.getElem_toArray, List.getElem_cons_zero, List.getElem_cons_succ, List.setIfInBounds_toArray, List.set_cons_zero, List.set_cons_succ]
              refine wpAnyH_take (i := 9) (v := .int .u32 0) rfl (by kernel_rfl) (by kernel_rfl) (by kernel_rfl) (fun _ _ _ h => h) (Or.inl ⟨by rfl, fun W hW => ?_⟩) hHeld ?_
              · clear hW
                go_simp
              try simp only [Act.put, List.getElem_toArray, List.getElem_cons_zero, List.getElem_cons_succ, List.setIfInBounds_toArray, List.set_cons_zero, List.set_cons_succ]
              refine wpAnyH_take (i := 10) (v := .int .i64 0) rfl (by kernel_rfl) (by kernel_rfl) (by kernel_rfl) (fun _ _ _ h => h) (Or.inl ⟨by rfl, fun W hW => ?_⟩) hHeld ?_
              · clear hW
                go_simp
              try simp only [Act.put, List.getElem_toArray, List.getElem_cons_zero, List.getElem_cons_succ, List.setIfInBounds_toArray, List.set_cons_zero, List.set_cons_succ]
              refine wpAnyH_take (i := 11) (v := .int .i64 0) rfl (by kernel_rfl) (by kernel_rfl) (by kernel_rfl) (fun _ _ _ h => h) (Or.inl ⟨by rfl, fun W hW => ?_⟩) hHeld ?_
              · clear hW
                go_simp
              try simp only [Act.put, List.getElem_toArray, List.getElem_cons_zero, List.getElem_cons_succ, List.setIfInBounds_toArray, List.set_cons_zero, List.set_cons_succ]
              refine wpAnyH_done (by kernel_rfl) ?_ _
              have HG5 : Hid (wo.grownBy w5 none) := grown_trans HKI.out hHeld.2.1
              have HC5 : Hid (Cells w5 a b) := HC0.out.keptNone (grown_trans HGO.out HG5.out)
              clear hHeld O2 C2 K2 K5 HVX HCD HSJ
              have u2 : IntKind.u64.wrap (at' : Int) = (at' : Int) := by rw [IntKind.wrap_u64]; have := HAT.out; omega
              have u3 : IntKind.u64.wrap (nn : Int) = (nn : Int) := by rw [IntKind.wrap_u64]; have := HNN.out; omega
              have u4 : IntKind.u64.wrap (b.length : Int) = (b.length : Int) := by rw [IntKind.wrap_u64]; have := HBD.out; omega
              have u1 : IntKind.u64.wrap (bs : Int) = (bs : Int) := by rw [IntKind.wrap_u64]; have := HBS.out; omega
              have u5 : IntKind.u64.wrap ((bs : Int) + (at' : Int)) = (PS : Int) := by rw [IntKind.wrap_u64]; have := HAT.out; have := HBS.out; have := HPS2.out; omega
              have u6 : IntKind.u64.wrap ((PS : Int) + (nn : Int)) = (SM : Int) := by rw [IntKind.wrap_u64]; have := HAT.out; have := HBS.out; have := HPS2.out; have := HNN.out; have := HSM.out; omega
              go_wp2
              go_roundw
              case rel => exact ⟨2, by omega, by go_num, HG5.out⟩
              case measure => simp [intOf]
          · rw [show ((2 : Nat) : Int) = 2 from rfl]
            obtain ⟨bs, hbs⟩ : ∃ bs : Nat, v.pos = bs := ⟨_, rfl⟩
            rw [hbs] at c5
            have HBE : Hid (baseM v 3 = (bs, decide (v.net = 6))) := by show _ = _; rw [← hbs]; rfl
            have HBS : Hid (bs ≤ 65535) := by show bs ≤ 65535; have := HBD.out; omega
            obtain ⟨PS, hPS⟩ : ∃ PS : Nat, bs + at' = PS := ⟨_, rfl⟩
            have HPS2 : Hid (bs + at' = PS) := hPS
            obtain ⟨SM, hSM⟩ : ∃ SM : Nat, PS + nn = SM := ⟨_, rfl⟩
            have HSM : Hid (PS + nn = SM) := hSM
            clear hbs hPS hSM
            by_cases hnet : v.net = 6
            · have e4 : ((v.net : Int) == 6) = true := by rw [beq_iff_eq]; omega
              have HBT : Hid (baseM v 3 = (bs, true)) := by show _ = _; rw [HBE.out, decide_eq_true hnet]
              by_cases hs : SM ≤ b.length
              · have HVE : Hid (valueA [nmAt at', ldAt 3 (nn : Int)] l 0 b = .tuple #[.int .u32 (numAt b PS nn : Int), .int .i64 1, .int .i64 0]) := by
                  show _ = _
                  rw [HPU.out nn 3 (by omega) HNN.out, HBT.out, if_neg (by simp)]
                  simp only
                  rw [HPS2.out, HSM.out]
                  rw [if_pos hs]
                have HBD2 := bld_ldk 3 (nn : Int)
                have HLD := lit_duo (nmAt at') (ldAt 3 (nn : Int))
                have HVX : Hid (∀ (W : World) (D : Addr) (ab : Option Addr) (cb : Nat), CV W (some D) (flatG [nmAt at', ldAt 3 (nn : Int)]) → Cells W ab b → b.length ≤ cb → Calls Tryz.prog 11 #[.slice (some D) 2 2, .agg LA, .int .i64 0, .slice ab b.length cb] W fun e w' => e = .returned (.tuple #[.int .u32 (numAt b PS nn : Int), .int .i64 1, .int .i64 0]) ∧ W.grownBy w' none) := fun W D ab cb h h2 h3 => by
                  have := HVT.out [nmAt at', ldAt 3 (nn : Int)] W D ab cb rfl h (by intro x hx; simp only [List.mem_cons, List.not_mem_nil, or_false] at hx; rcases hx with rfl | rfl; exact HAT.out.1; exact Nat.zero_le _) h2 h3
                  rw [HVE.out] at this
                  exact this
                obtain ⟨NA, hNA⟩ : ∃ NA, (nmAt at').cells.toArray = NA := ⟨_, rfl⟩
                obtain ⟨ND, hND⟩ : ∃ ND, (ldAt 3 (nn : Int)).cells.toArray = ND := ⟨_, rfl⟩
                have HBN2 := HBN
                rw [hNA] at HBN2 HLD
                rw [hND] at HBD2 HLD
                clear hNA hND
                go_upto_region 14 with (first
                  | (refine wpList_bld rfl 37 #[(0, .const (.int .i64 1)), (2, .tmp 53)] rfl #[(0, .int .i64 1), (2, .int .u32 (at' : Int))] (by kernel_rfl) (.agg NA) HBN2 ?_)
                  | (refine wpList_bld rfl 37 #[(0, .const (.int .i64 3)), (5, .tmp 58), (4, .tmp 59)] rfl #[(0, .int .i64 3), (5, .int .i64 3), (4, .int .i64 (nn : Int))] (by kernel_rfl) (.agg ND) HBD2 ?_)
                  | (refine wpList_lit (by rfl) 38 2 _ rfl #[(0, .agg NA), (1, .agg ND)] (by kernel_rfl) (flatG [nmAt at', ldAt 3 (nn : Int)]) 37 HLD ?_; intro D wj CD KJ))
                have HSJ : Hid (VAt wj.drew B 23 LA ∧ wi.grownBy wj.drew none) := ⟨(HVLI.out.kept KJ).kept (grown_drewN wj 1 none), grown_trans KJ (grown_drewN wj 1 none)⟩
                have HCD : Hid (∀ W, wj.grownBy W none → CV W (some ⟨D, 0, none⟩) (flatG [nmAt at', ldAt 3 (nn : Int)])) := fun W K => CD.keptNone K
                clear CD KJ c5 c6 f0 f1 f2
                refine wp_region_held_drew (S := fun W => VAt W B 23 LA ∧ wi.grownBy W none ∧ wj.grownBy W none) (by kernel_rfl) (⟨HSJ.out.1, HSJ.out.2, grown_drewN wj 1 none⟩) (fun hHeld => ?_)
                refine wpAnyH_take (i := 0) (v := .slice (some ⟨D, 0, none⟩) 2 2) rfl (by kernel_rfl) (by kernel_rfl) (by kernel_rfl) (fun _ _ _ h => h) (Or.inl ⟨by rfl, fun W hW => ?_⟩) hHeld ?_
                · clear hW
                  go_simp
                try simp only [Act.put, List.getElem_toArray, List.getElem_cons_zero, List.setIfInBounds_toArray, List.set_cons_zero, List.set_cons_succ]
                refine wpAnyH_take (i := 1) (v := .agg (LA)) rfl (by kernel_rfl) (by kernel_rfl) (by kernel_rfl) (fun _ _ _ h => h) (yieldsIf_load_row (by rfl) _ _ rfl B rfl 23 (LA) _ (fun W hW => hW.1) Tryz.underlying23 rfl HLS) hHeld ?_
                try simp only [Act.put, List.getElem_toArray, List.getElem_cons_zero, List.getElem_cons_succ, List.setIfInBounds_toArray, List.set_cons_zero, List.set_cons_succ]
                refine wpAnyH_take (i := 2) (v := .slice a b.length ca) rfl (by kernel_rfl) (by kernel_rfl) (by kernel_rfl) (fun _ _ _ h => h) (Or.inl ⟨by rfl, fun W hW => ?_⟩) hHeld ?_
                · clear hW
                  go_simp
                try simp only [Act.put, List.getElem_toArray, List.getElem_cons_zero, List.getElem_cons_succ, List.setIfInBounds_toArray, List.set_cons_zero, List.set_cons_succ]
                refine wpAnyH_ready (rs := [3]) (by kernel_rfl) (by simp) (AllReadyH.cons rfl (fun K hK => ?_) AllReadyH.nil)
                go_simp
                refine (HCB0.out _ (grown_trans HGI.out hHeld.2.1)).mono ?_
                rintro e w2 ⟨v2, rfl, O2, K2⟩
                obtain ⟨a2, c2, hv2, C2, hl2, -⟩ := cv_of_row O2
                subst hv2
                go_wp2_with fail
                refine hK.out _ _ (⟨hHeld.1.kept K2, grown_trans hHeld.2.1 K2, grown_trans hHeld.2.2 K2⟩) (fun hHeld => ?_)
                clear hK K
                try simp only [Act.put, List.getElem_toArray, List.getElem_cons_zero, List.getElem_cons_succ, List.setIfInBounds_toArray, List.set_cons_zero, List.set_cons_succ]
                refine wpAnyH_ready (rs := [4]) (by kernel_rfl) (by simp) (AllReadyH.cons rfl (fun K hK => ?_) AllReadyH.nil)
                go_simp
                refine (HVX.out _ _ _ _ (HCD.out _ hHeld.2.2) C2.cells hl2).mono ?_
                rintro e w5 ⟨rfl, K5⟩
                go_wp2_with fail
                refine hK.out _ _ (⟨hHeld.1.kept K5, grown_trans hHeld.2.1 K5, grown_trans hHeld.2.2 K5⟩) (fun hHeld => ?_)
                clear hK K
                try simp only [Act.put, List.getElem_toArray, List.getElem_cons_zero, List.getElem_cons_succ, List.setIfInBounds_toArray, List.set_cons_zero, List.set_cons_succ]
                refine wpAnyH_take (i := 5) (v := .tuple #[.int .u32 (numAt b PS nn : Int), .int .i64 1, .int .i64 0]) rfl (by kernel_rfl) (by kernel_rfl) (by kernel_rfl) (fun _ _ _ h => h) (Or.inl ⟨by rfl, fun W hW => ?_⟩) hHeld ?_
                · clear hW
                  go_simp
                try simp only [Act.put, List.getElem_toArray, List.getElem_cons_zero, List.getElem_cons_succ, List.setIfInBounds_toArray, List.set_cons_zero, List.set_cons_succ]
                refine wpAnyH_take (i := 6) (v := .int .u32 (numAt b PS nn : Int)) rfl (by kernel_rfl) (by kernel_rfl) (by kernel_rfl) (fun _ _ _ h => h) (Or.inl ⟨by rfl, fun W hW => ?_⟩) hHeld ?_
                · clear hW
                  go_simp
                try simp only [Act.put, List.getElem_toArray, List.getElem_cons_zero, List.getElem_cons_succ, List.setIfInBounds_toArray, List.set_cons_zero, List.set_cons_succ]
                refine wpAnyH_take (i := 7) (v := .int .i64 1) rfl (by kernel_rfl) (by kernel_rfl) (by kernel_rfl) (fun _ _ _ h => h) (Or.inl ⟨by rfl, fun W hW => ?_⟩) hHeld ?_
                · clear hW
                  go_simp
                try simp only [Act.put, List.getElem_toArray, List.getElem_cons_zero, List.getElem_cons_succ, List.setIfInBounds_toArray, List.set_cons_zero, List.set_cons_succ]
                refine wpAnyH_take (i := 8) (v := .int .i64 0) rfl (by kernel_rfl) (by kernel_rfl) (by kernel_rfl) (fun _ _ _ h => h) (Or.inl ⟨by rfl, fun W hW => ?_⟩) hHeld ?_
                · clear hW
                  go_simp
                try simp only [Act.put, List.getElem_toArray, List.getElem_cons_zero, List.getElem_cons_succ, List.setIfInBounds_toArray, List.set_cons_zero, List.set_cons_succ]
                refine wpAnyH_take (i := 9) (v := .int .u32 (numAt b PS nn : Int)) rfl (by kernel_rfl) (by kernel_rfl) (by kernel_rfl) (fun _ _ _ h => h) (Or.inl ⟨by rfl, fun W hW => ?_⟩) hHeld ?_
                · clear hW
                  go_simp
                try simp only [Act.put, List.getElem_toArray, List.getElem_cons_zero, List.getElem_cons_succ, List.setIfInBounds_toArray, List.set_cons_zero, List.set_cons_succ]
                refine wpAnyH_take (i := 10) (v := .int .i64 1) rfl (by kernel_rfl) (by kernel_rfl) (by kernel_rfl) (fun _ _ _ h => h) (Or.inl ⟨by rfl, fun W hW => ?_⟩) hHeld ?_
                · clear hW
                  go_simp
                try simp only [Act.put, List.getElem_toArray, List.getElem_cons_zero, List.getElem_cons_succ, List.setIfInBounds_toArray, List.set_cons_zero, List.set_cons_succ]
                refine wpAnyH_take (i := 11) (v := .int .i64 0) rfl (by kernel_rfl) (by kernel_rfl) (by kernel_rfl) (fun _ _ _ h => h) (Or.inl ⟨by rfl, fun W hW => ?_⟩) hHeld ?_
                · clear hW
                  go_simp
                try simp only [Act.put, List.getElem_toArray, List.getElem_cons_zero, List.getElem_cons_succ, List.setIfInBounds_toArray, List.set_cons_zero, List.set_cons_succ]
                refine wpAnyH_done (by kernel_rfl) ?_ _
                have HG5 : Hid (wo.grownBy w5 none) := grown_trans HKI.out hHeld.2.1
                have HC5 : Hid (Cells w5 a b) := HC0.out.keptNone (grown_trans HGO.out HG5.out)
                clear hHeld O2 C2 K2 K5 HVX HCD HSJ
                have u2 : IntKind.u64.wrap (at' : Int) = (at' : Int) := by rw [IntKind.wrap_u64]; have := HAT.out; omega
                have u3 : IntKind.u64.wrap (nn : Int) = (nn : Int) := by rw [IntKind.wrap_u64]; have := HNN.out; omega
                have u4 : IntKind.u64.wrap (b.length : Int) = (b.length : Int) := by rw [IntKind.wrap_u64]; have := HBD.out; omega
                have u1 : IntKind.u64.wrap (bs : Int) = (bs : Int) := by rw [IntKind.wrap_u64]; have := HBS.out; omega
                have u5 : IntKind.u64.wrap ((bs : Int) + (at' : Int)) = (PS : Int) := by rw [IntKind.wrap_u64]; have := HAT.out; have := HBS.out; have := HPS2.out; omega
                have u6 : IntKind.u64.wrap ((PS : Int) + (nn : Int)) = (SM : Int) := by rw [IntKind.wrap_u64]; have := HAT.out; have := HBS.out; have := HPS2.out; have := HNN.out; have := HSM.out; omega
                have HHS : Hid (SM ≤ b.length) := hs
                go_wp2
                go_loopw [21, 23] (fun z j wq => ∃ m : Nat, m ≤ nn ∧ j = .int .i64 m ∧ z = .int .u32 (numAt b PS m : Int) ∧ wq = w5) (fun _ j _ => nn - (intOf j).toNat)
                case atStart => exact ⟨0, Nat.zero_le _, rfl, rfl, rfl⟩
                case round =>
                  obtain ⟨m, hm, rfl, rfl, hwq⟩ := hrel
                  subst hwq
                  have hn4 := HNN.out
                  have hSM := HSM.out
                  have hS2 := HHS.out
                  have hA4 := HAT.out.1
                  by_cases hlt : m < nn
                  · obtain ⟨bb, oo, rfl, h1⟩ := HC5.out.addr (k := PS + m) (by omega)
                    have hlt2 : PS + m < b.length := by omega
                    have hps := HPS2.out
                    have hlt3 : bs + at' + m < b.length := by omega
                    have hbs4 := HBS.out
                    have c1 : wr.cell? ⟨bb, oo + (bs + at' + m), none⟩ = some (.int .u8 (b[PS + m].toNat : Int)) := by
                      have h := h1 (PS + m) hlt2
                      rw [show oo + (PS + m) = oo + (bs + at' + m) by omega] at h
                      exact h
                    clear hps
                    have HNI : Hid (m ≤ 3 ∧ PS + m < b.length ∧ m < nn) := ⟨by omega, by omega, hlt⟩
                    have hm3 : m ≤ 3 := by omega
                    clear h1 hn4 hSM hS2
                    go_wp2
                    go_roundw
                    case rel => exact ⟨m + 1, by have := HNI.out; omega, by go_num, numAt_step b PS m HNI.out.1 HNI.out.2.1, by first | rfl | trivial⟩
                    case measure => have := HNI.out; simp [intOf]; omega
                  · obtain rfl : m = nn := by omega
                    clear hn4 hSM hS2 hm hlt
                    go_wp2
                    go_roundw
                    case rel => exact ⟨3, by omega, by go_num, HG5.out⟩
                    case measure => simp [intOf]
              · have HVE : Hid (valueA [nmAt at', ldAt 3 (nn : Int)] l 0 b = .tuple #[.int .u32 0, .int .i64 2, .int .i64 0]) := by
                  show _ = _
                  rw [HPU.out nn 3 (by omega) HNN.out, HBT.out, if_neg (by simp)]
                  simp only
                  rw [HPS2.out, HSM.out]
                  rw [if_neg hs]
                have HBD2 := bld_ldk 3 (nn : Int)
                have HLD := lit_duo (nmAt at') (ldAt 3 (nn : Int))
                have HVX : Hid (∀ (W : World) (D : Addr) (ab : Option Addr) (cb : Nat), CV W (some D) (flatG [nmAt at', ldAt 3 (nn : Int)]) → Cells W ab b → b.length ≤ cb → Calls Tryz.prog 11 #[.slice (some D) 2 2, .agg LA, .int .i64 0, .slice ab b.length cb] W fun e w' => e = .returned (.tuple #[.int .u32 0, .int .i64 2, .int .i64 0]) ∧ W.grownBy w' none) := fun W D ab cb h h2 h3 => by
                  have := HVT.out [nmAt at', ldAt 3 (nn : Int)] W D ab cb rfl h (by intro x hx; simp only [List.mem_cons, List.not_mem_nil, or_false] at hx; rcases hx with rfl | rfl; exact HAT.out.1; exact Nat.zero_le _) h2 h3
                  rw [HVE.out] at this
                  exact this
                obtain ⟨NA, hNA⟩ : ∃ NA, (nmAt at').cells.toArray = NA := ⟨_, rfl⟩
                obtain ⟨ND, hND⟩ : ∃ ND, (ldAt 3 (nn : Int)).cells.toArray = ND := ⟨_, rfl⟩
                have HBN2 := HBN
                rw [hNA] at HBN2 HLD
                rw [hND] at HBD2 HLD
                clear hNA hND
                go_upto_region 14 with (first
                  | (refine wpList_bld rfl 37 #[(0, .const (.int .i64 1)), (2, .tmp 53)] rfl #[(0, .int .i64 1), (2, .int .u32 (at' : Int))] (by kernel_rfl) (.agg NA) HBN2 ?_)
                  | (refine wpList_bld rfl 37 #[(0, .const (.int .i64 3)), (5, .tmp 58), (4, .tmp 59)] rfl #[(0, .int .i64 3), (5, .int .i64 3), (4, .int .i64 (nn : Int))] (by kernel_rfl) (.agg ND) HBD2 ?_)
                  | (refine wpList_lit (by rfl) 38 2 _ rfl #[(0, .agg NA), (1, .agg ND)] (by kernel_rfl) (flatG [nmAt at', ldAt 3 (nn : Int)]) 37 HLD ?_; intro D wj CD KJ))
                have HSJ : Hid (VAt wj.drew B 23 LA ∧ wi.grownBy wj.drew none) := ⟨(HVLI.out.kept KJ).kept (grown_drewN wj 1 none), grown_trans KJ (grown_drewN wj 1 none)⟩
                have HCD : Hid (∀ W, wj.grownBy W none → CV W (some ⟨D, 0, none⟩) (flatG [nmAt at', ldAt 3 (nn : Int)])) := fun W K => CD.keptNone K
                clear CD KJ c5 c6 f0 f1 f2
                refine wp_region_held_drew (S := fun W => VAt W B 23 LA ∧ wi.grownBy W none ∧ wj.grownBy W none) (by kernel_rfl) (⟨HSJ.out.1, HSJ.out.2, grown_drewN wj 1 none⟩) (fun hHeld => ?_)
                refine wpAnyH_take (i := 0) (v := .slice (some ⟨D, 0, none⟩) 2 2) rfl (by kernel_rfl) (by kernel_rfl) (by kernel_rfl) (fun _ _ _ h => h) (Or.inl ⟨by rfl, fun W hW => ?_⟩) hHeld ?_
                · clear hW
                  go_simp
                try simp only [Act.put, List.getElem_toArray, List.getElem_cons_zero, List.setIfInBounds_toArray, List.set_cons_zero, List.set_cons_succ]
                refine wpAnyH_take (i := 1) (v := .agg (LA)) rfl (by kernel_rfl) (by kernel_rfl) (by kernel_rfl) (fun _ _ _ h => h) (yieldsIf_load_row (by rfl) _ _ rfl B rfl 23 (LA) _ (fun W hW => hW.1) Tryz.underlying23 rfl HLS) hHeld ?_
                try simp only [Act.put, List.getElem_toArray, List.getElem_cons_zero, List.getElem_cons_succ, List.setIfInBounds_toArray, List.set_cons_zero, List.set_cons_succ]
                refine wpAnyH_take (i := 2) (v := .slice a b.length ca) rfl (by kernel_rfl) (by kernel_rfl) (by kernel_rfl) (fun _ _ _ h => h) (Or.inl ⟨by rfl, fun W hW => ?_⟩) hHeld ?_
                · clear hW
                  go_simp
                try simp only [Act.put, List.getElem_toArray, List.getElem_cons_zero, List.getElem_cons_succ, List.setIfInBounds_toArray, List.set_cons_zero, List.set_cons_succ]
                refine wpAnyH_ready (rs := [3]) (by kernel_rfl) (by simp) (AllReadyH.cons rfl (fun K hK => ?_) AllReadyH.nil)
                go_simp
                refine (HCB0.out _ (grown_trans HGI.out hHeld.2.1)).mono ?_
                rintro e w2 ⟨v2, rfl, O2, K2⟩
                obtain ⟨a2, c2, hv2, C2, hl2, -⟩ := cv_of_row O2
                subst hv2
                go_wp2_with fail
                refine hK.out _ _ (⟨hHeld.1.kept K2, grown_trans hHeld.2.1 K2, grown_trans hHeld.2.2 K2⟩) (fun hHeld => ?_)
                clear hK K
                try simp only [Act.put, List.getElem_toArray, List.getElem_cons_zero, List.getElem_cons_succ, List.setIfInBounds_toArray, List.set_cons_zero, List.set_cons_succ]
                refine wpAnyH_ready (rs := [4]) (by kernel_rfl) (by simp) (AllReadyH.cons rfl (fun K hK => ?_) AllReadyH.nil)
                go_simp
                refine (HVX.out _ _ _ _ (HCD.out _ hHeld.2.2) C2.cells hl2).mono ?_
                rintro e w5 ⟨rfl, K5⟩
                go_wp2_with fail
                refine hK.out _ _ (⟨hHeld.1.kept K5, grown_trans hHeld.2.1 K5, grown_trans hHeld.2.2 K5⟩) (fun hHeld => ?_)
                clear hK K
                try simp only [Act.put, List.getElem_toArray, List.getElem_cons_zero, List.getElem_cons_succ, List.setIfInBounds_toArray, List.set_cons_zero, List.set_cons_succ]
                refine wpAnyH_take (i := 5) (v := .tuple #[.int .u32 0, .int .i64 2, .int .i64 0]) rfl (by kernel_rfl) (by kernel_rfl) (by kernel_rfl) (fun _ _ _ h => h) (Or.inl ⟨by rfl, fun W hW => ?_⟩) hHeld ?_
                · clear hW
                  go_simp
                try simp only [Act.put, List.getElem_toArray, List.getElem_cons_zero, List.getElem_cons_succ, List.setIfInBounds_toArray, List.set_cons_zero, List.set_cons_succ]
                refine wpAnyH_take (i := 6) (v := .int .u32 0) rfl (by kernel_rfl) (by kernel_rfl) (by kernel_rfl) (fun _ _ _ h => h) (Or.inl ⟨by rfl, fun W hW => ?_⟩) hHeld ?_
                · clear hW
                  go_simp
                try simp only [Act.put, List.getElem_toArray, List.getElem_cons_zero, List.getElem_cons_succ, List.setIfInBounds_toArray, List.set_cons_zero, List.set_cons_succ]
                refine wpAnyH_take (i := 7) (v := .int .i64 2) rfl (by kernel_rfl) (by kernel_rfl) (by kernel_rfl) (fun _ _ _ h => h) (Or.inl ⟨by rfl, fun W hW => ?_⟩) hHeld ?_
                · clear hW
                  go_simp
                try simp only [Act.put, List.getElem_toArray, List.getElem_cons_zero, List.getElem_cons_succ, List.setIfInBounds_toArray, List.set_cons_zero, List.set_cons_succ]
                refine wpAnyH_take (i := 8) (v := .int .i64 0) rfl (by kernel_rfl) (by kernel_rfl) (by kernel_rfl) (fun _ _ _ h => h) (Or.inl ⟨by rfl, fun W hW => ?_⟩) hHeld ?_
                · clear hW
                  go_simp
                try simp only [Act.put, List.getElem_toArray, List.getElem_cons_zero, List.getElem_cons_succ, List.setIfInBounds_toArray, List.set_cons_zero, List.set_cons_succ]
                refine wpAnyH_take (i := 9) (v := .int .u32 0) rfl (by kernel_rfl) (by kernel_rfl) (by kernel_rfl) (fun _ _ _ h => h) (Or.inl ⟨by rfl, fun W hW => ?_⟩) hHeld ?_
                · clear hW
                  go_simp
                try simp only [Act.put, List.getElem_toArray, List.getElem_cons_zero, List.getElem_cons_succ, List.setIfInBounds_toArray, List.set_cons_zero, List.set_cons_succ]
                refine wpAnyH_take (i := 10) (v := .int .i64 2) rfl (by kernel_rfl) (by kernel_rfl) (by kernel_rfl) (fun _ _ _ h => h) (Or.inl ⟨by rfl, fun W hW => ?_⟩) hHeld ?_
                · clear hW
                  go_simp
                try simp only [Act.put, List.getElem_toArray, List.getElem_cons_zero, List.getElem_cons_succ, List.setIfInBounds_toArray, List.set_cons_zero, List.set_cons_succ]
                refine wpAnyH_take (i := 11) (v := .int .i64 0) rfl (by kernel_rfl) (by kernel_rfl) (by kernel_rfl) (fun _ _ _ h => h) (Or.inl ⟨by rfl, fun W hW => ?_⟩) hHeld ?_
                · clear hW
                  go_simp
                try simp only [Act.put, List.getElem_toArray, List.getElem_cons_zero, List.getElem_cons_succ, List.setIfInBounds_toArray, List.set_cons_zero, List.set_cons_succ]
                refine wpAnyH_done (by kernel_rfl) ?_ _
                have HG5 : Hid (wo.grownBy w5 none) := grown_trans HKI.out hHeld.2.1
                have HC5 : Hid (Cells w5 a b) := HC0.out.keptNone (grown_trans HGO.out HG5.out)
                clear hHeld O2 C2 K2 K5 HVX HCD HSJ
                have u2 : IntKind.u64.wrap (at' : Int) = (at' : Int) := by rw [IntKind.wrap_u64]; have := HAT.out; omega
                have u3 : IntKind.u64.wrap (nn : Int) = (nn : Int) := by rw [IntKind.wrap_u64]; have := HNN.out; omega
                have u4 : IntKind.u64.wrap (b.length : Int) = (b.length : Int) := by rw [IntKind.wrap_u64]; have := HBD.out; omega
                have u1 : IntKind.u64.wrap (bs : Int) = (bs : Int) := by rw [IntKind.wrap_u64]; have := HBS.out; omega
                have u5 : IntKind.u64.wrap ((bs : Int) + (at' : Int)) = (PS : Int) := by rw [IntKind.wrap_u64]; have := HAT.out; have := HBS.out; have := HPS2.out; omega
                have u6 : IntKind.u64.wrap ((PS : Int) + (nn : Int)) = (SM : Int) := by rw [IntKind.wrap_u64]; have := HAT.out; have := HBS.out; have := HPS2.out; have := HNN.out; have := HSM.out; omega
                have hs2 : decide (SM ≤ b.length) = false := decide_eq_false hs
                go_wp2
                go_roundw
                case rel => exact ⟨3, by omega, by go_num, HG5.out⟩
                case measure => simp [intOf]
            · have e4 : ((v.net : Int) == 6) = false := by rw [beq_eq_false_iff_ne]; omega
              have HVE : Hid (valueA [nmAt at', ldAt 3 (nn : Int)] l 0 b = .tuple #[.int .u32 0, .int .i64 0, .int .i64 0]) := by
                show _ = _
                rw [HPU.out nn 3 (by omega) HNN.out, HBE.out, decide_eq_false hnet]
                rfl
              clear hnet
              have HBD2 := bld_ldk 3 (nn : Int)
              have HLD := lit_duo (nmAt at') (ldAt 3 (nn : Int))
              have HVX : Hid (∀ (W : World) (D : Addr) (ab : Option Addr) (cb : Nat), CV W (some D) (flatG [nmAt at', ldAt 3 (nn : Int)]) → Cells W ab b → b.length ≤ cb → Calls Tryz.prog 11 #[.slice (some D) 2 2, .agg LA, .int .i64 0, .slice ab b.length cb] W fun e w' => e = .returned (.tuple #[.int .u32 0, .int .i64 0, .int .i64 0]) ∧ W.grownBy w' none) := fun W D ab cb h h2 h3 => by
                have := HVT.out [nmAt at', ldAt 3 (nn : Int)] W D ab cb rfl h (by intro x hx; simp only [List.mem_cons, List.not_mem_nil, or_false] at hx; rcases hx with rfl | rfl; exact HAT.out.1; exact Nat.zero_le _) h2 h3
                rw [HVE.out] at this
                exact this
              obtain ⟨NA, hNA⟩ : ∃ NA, (nmAt at').cells.toArray = NA := ⟨_, rfl⟩
              obtain ⟨ND, hND⟩ : ∃ ND, (ldAt 3 (nn : Int)).cells.toArray = ND := ⟨_, rfl⟩
              have HBN2 := HBN
              rw [hNA] at HBN2 HLD
              rw [hND] at HBD2 HLD
              clear hNA hND
              go_upto_region 14 with (first
                | (refine wpList_bld rfl 37 #[(0, .const (.int .i64 1)), (2, .tmp 53)] rfl #[(0, .int .i64 1), (2, .int .u32 (at' : Int))] (by kernel_rfl) (.agg NA) HBN2 ?_)
                | (refine wpList_bld rfl 37 #[(0, .const (.int .i64 3)), (5, .tmp 58), (4, .tmp 59)] rfl #[(0, .int .i64 3), (5, .int .i64 3), (4, .int .i64 (nn : Int))] (by kernel_rfl) (.agg ND) HBD2 ?_)
                | (refine wpList_lit (by rfl) 38 2 _ rfl #[(0, .agg NA), (1, .agg ND)] (by kernel_rfl) (flatG [nmAt at', ldAt 3 (nn : Int)]) 37 HLD ?_; intro D wj CD KJ))
              have HSJ : Hid (VAt wj.drew B 23 LA ∧ wi.grownBy wj.drew none) := ⟨(HVLI.out.kept KJ).kept (grown_drewN wj 1 none), grown_trans KJ (grown_drewN wj 1 none)⟩
              have HCD : Hid (∀ W, wj.grownBy W none → CV W (some ⟨D, 0, none⟩) (flatG [nmAt at', ldAt 3 (nn : Int)])) := fun W K => CD.keptNone K
              clear CD KJ c5 c6 f0 f1 f2
              refine wp_region_held_drew (S := fun W => VAt W B 23 LA ∧ wi.grownBy W none ∧ wj.grownBy W none) (by kernel_rfl) (⟨HSJ.out.1, HSJ.out.2, grown_drewN wj 1 none⟩) (fun hHeld => ?_)
              refine wpAnyH_take (i := 0) (v := .slice (some ⟨D, 0, none⟩) 2 2) rfl (by kernel_rfl) (by kernel_rfl) (by kernel_rfl) (fun _ _ _ h => h) (Or.inl ⟨by rfl, fun W hW => ?_⟩) hHeld ?_
              · clear hW
                go_simp
              try simp only [Act.put, List.getElem_toArray, List.getElem_cons_zero, List.setIfInBounds_toArray, List.set_cons_zero, List.set_cons_succ]
              refine wpAnyH_take (i := 1) (v := .agg (LA)) rfl (by kernel_rfl) (by kernel_rfl) (by kernel_rfl) (fun _ _ _ h => h) (yieldsIf_load_row (by rfl) _ _ rfl B rfl 23 (LA) _ (fun W hW => hW.1) Tryz.underlying23 rfl HLS) hHeld ?_
              try simp only [Act.put, List.getElem_toArray, List.getElem_cons_zero, List.getElem_cons_succ, List.setIfInBounds_toArray, List.set_cons_zero, List.set_cons_succ]
              refine wpAnyH_take (i := 2) (v := .slice a b.length ca) rfl (by kernel_rfl) (by kernel_rfl) (by kernel_rfl) (fun _ _ _ h => h) (Or.inl ⟨by rfl, fun W hW => ?_⟩) hHeld ?_
              · clear hW
                go_simp
              try simp only [Act.put, List.getElem_toArray, List.getElem_cons_zero, List.getElem_cons_succ, List.setIfInBounds_toArray, List.set_cons_zero, List.set_cons_succ]
              refine wpAnyH_ready (rs := [3]) (by kernel_rfl) (by simp) (AllReadyH.cons rfl (fun K hK => ?_) AllReadyH.nil)
              go_simp
              refine (HCB0.out _ (grown_trans HGI.out hHeld.2.1)).mono ?_
              rintro e w2 ⟨v2, rfl, O2, K2⟩
              obtain ⟨a2, c2, hv2, C2, hl2, -⟩ := cv_of_row O2
              subst hv2
              go_wp2_with fail
              refine hK.out _ _ (⟨hHeld.1.kept K2, grown_trans hHeld.2.1 K2, grown_trans hHeld.2.2 K2⟩) (fun hHeld => ?_)
              clear hK K
              try simp only [Act.put, List.getElem_toArray, List.getElem_cons_zero, List.getElem_cons_succ, List.setIfInBounds_toArray, List.set_cons_zero, List.set_cons_succ]
              refine wpAnyH_ready (rs := [4]) (by kernel_rfl) (by simp) (AllReadyH.cons rfl (fun K hK => ?_) AllReadyH.nil)
              go_simp
              refine (HVX.out _ _ _ _ (HCD.out _ hHeld.2.2) C2.cells hl2).mono ?_
              rintro e w5 ⟨rfl, K5⟩
              go_wp2_with fail
              refine hK.out _ _ (⟨hHeld.1.kept K5, grown_trans hHeld.2.1 K5, grown_trans hHeld.2.2 K5⟩) (fun hHeld => ?_)
              clear hK K
              try simp only [Act.put, List.getElem_toArray, List.getElem_cons_zero, List.getElem_cons_succ, List.setIfInBounds_toArray, List.set_cons_zero, List.set_cons_succ]
              refine wpAnyH_take (i := 5) (v := .tuple #[.int .u32 0, .int .i64 0, .int .i64 0]) rfl (by kernel_rfl) (by kernel_rfl) (by kernel_rfl) (fun _ _ _ h => h) (Or.inl ⟨by rfl, fun W hW => ?_⟩) hHeld ?_
              · clear hW
                go_simp
              try simp only [Act.put, List.getElem_toArray, List.getElem_cons_zero, List.getElem_cons_succ, List.setIfInBounds_toArray, List.set_cons_zero, List.set_cons_succ]
              refine wpAnyH_take (i := 6) (v := .int .u32 0) rfl (by kernel_rfl) (by kernel_rfl) (by kernel_rfl) (fun _ _ _ h => h) (Or.inl ⟨by rfl, fun W hW => ?_⟩) hHeld ?_
              · clear hW
                go_simp
              try simp only [Act.put, List.getElem_toArray, List.getElem_cons_zero, List.getElem_cons_succ, List.setIfInBounds_toArray, List.set_cons_zero, List.set_cons_succ]
              refine wpAnyH_take (i := 7) (v := .int .i64 0) rfl (by kernel_rfl) (by kernel_rfl) (by kernel_rfl) (fun _ _ _ h => h) (Or.inl ⟨by rfl, fun W hW => ?_⟩) hHeld ?_
              · clear hW
                go_simp
              try simp only [Act.put, List.getElem_toArray, List.getElem_cons_zero, List.getElem_cons_succ, List.setIfInBounds_toArray, List.set_cons_zero, List.set_cons_succ]
              refine wpAnyH_take (i := 8) (v := .int .i64 0) rfl (by kernel_rfl) (by kernel_rfl) (by kernel_rfl) (fun _ _ _ h => h) (Or.inl ⟨by rfl, fun W hW => ?_⟩) hHeld ?_
              · clear hW
                go_simp
              try simp only [Act.put, List.getElem_toArray, List.getElem_cons_zero, List.getElem_cons_succ, List.setIfInBounds_toArray, List.set_cons_zero, List.set_cons_succ]
              refine wpAnyH_take (i := 9) (v := .int .u32 0) rfl (by kernel_rfl) (by kernel_rfl) (by kernel_rfl) (fun _ _ _ h => h) (Or.inl ⟨by rfl, fun W hW => ?_⟩) hHeld ?_
              · clear hW
                go_simp
              try simp only [Act.put, List.getElem_toArray, List.getElem_cons_zero, List.getElem_cons_succ, List.setIfInBounds_toArray, List.set_cons_zero, List.set_cons_succ]
              refine wpAnyH_take (i := 10) (v := .int .i64 0) rfl (by kernel_rfl) (by kernel_rfl) (by kernel_rfl) (fun _ _ _ h => h) (Or.inl ⟨by rfl, fun W hW => ?_⟩) hHeld ?_
              · clear hW
                go_simp
              try simp only [Act.put, List.getElem_toArray, List.getElem_cons_zero, List.getElem_cons_succ, List.setIfInBounds_toArray, List.set_cons_zero, List.set_cons_succ]
              refine wpAnyH_take (i := 11) (v := .int .i64 0) rfl (by kernel_rfl) (by kernel_rfl) (by kernel_rfl) (fun _ _ _ h => h) (Or.inl ⟨by rfl, fun W hW => ?_⟩) hHeld ?_
              · clear hW
                go_simp
              try simp only [Act.put, List.getElem_toArray, List.getElem_cons_zero, List.getElem_cons_succ, List.setIfInBounds_toArray, List.set_cons_zero, List.set_cons_succ]
              refine wpAnyH_done (by kernel_rfl) ?_ _
              have HG5 : Hid (wo.grownBy w5 none) := grown_trans HKI.out hHeld.2.1
              have HC5 : Hid (Cells w5 a b) := HC0.out.keptNone (grown_trans HGO.out HG5.out)
              clear hHeld O2 C2 K2 K5 HVX HCD HSJ
              have u2 : IntKind.u64.wrap (at' : Int) = (at' : Int) := by rw [IntKind.wrap_u64]; have := HAT.out; omega
              have u3 : IntKind.u64.wrap (nn : Int) = (nn : Int) := by rw [IntKind.wrap_u64]; have := HNN.out; omega
              have u4 : IntKind.u64.wrap (b.length : Int) = (b.length : Int) := by rw [IntKind.wrap_u64]; have := HBD.out; omega
              have u1 : IntKind.u64.wrap (bs : Int) = (bs : Int) := by rw [IntKind.wrap_u64]; have := HBS.out; omega
              have u5 : IntKind.u64.wrap ((bs : Int) + (at' : Int)) = (PS : Int) := by rw [IntKind.wrap_u64]; have := HAT.out; have := HBS.out; have := HPS2.out; omega
              have u6 : IntKind.u64.wrap ((PS : Int) + (nn : Int)) = (SM : Int) := by rw [IntKind.wrap_u64]; have := HAT.out; have := HBS.out; have := HPS2.out; have := HNN.out; have := HSM.out; omega
              go_wp2
              go_roundw
              case rel => exact ⟨3, by omega, by go_num, HG5.out⟩
              case measure => simp [intOf]
          · rw [show ((3 : Nat) : Int) = 3 from rfl]
            clear c5 c6 f0 f1 f2
            go_wp2_with fail
            refine (HAW.out _ HGI.out).mono ?_
            rintro e ws ⟨rfl, Ks⟩
            go_wp2
            go_ret
            exact ⟨rfl, Ks⟩

set_option maxRecDepth 100000 in
theorem lifted (os : Os) (started : os.Started) (H : Type) (enc : TypeId × Value → H) :
    ReturnsInHanded {} Tryz.checked os 3 .any (Rows.meanLoadsSpec.pre6 enc Tryz.prog Tryz.f3 Rows.meanLoadsRow.domain false) (Rows.meanLoadsSpec.post enc Tryz.prog Tryz.f3 false true false false) := by
  refine returnsInHanded_of_change_sized (C := Tryz.checked) own started (by kernel_rfl) Tryz.func3
    (ChangeSpec.witness6 (enc := enc) (C := Tryz.checked) false ⟨#[], #[.agg #[.bool false, .bool false, .int .i64 0], .slice none 0 0, .int .u32 0, .int .i64 0], []⟩ 8 (by kernel_rfl) (by kernel_rfl) (by kernel_rfl) (by kernel_rfl)) ?_
  intro W base args ds gs before hval0 hW hcnd hsz0 _
  have hsz : (DataW.weightsEach Tryz.prog (Tryz.f3.params.toList ++ Rows.meanLoadsSpec.plain.varTypes Tryz.prog) (ds ++ gs)).all (· ≤ reachBytes) = true := hsz0
  have hval : ∀ (j : Nat) t v, Tryz.f3.params[j]? = some t → args[j]? = some v → Value.okWide Tryz.prog W .any base t v := hval0
  have hW' := hW
  obtain ⟨p, q, hA0, hV, rfl, hfz, hnd⟩ := hW
  have hA : DataW.TrodAll enc Tryz.prog W 0 (fun _ => true) true Tryz.f3.params.toList args.toList ds p := hA0
  rw [Tryz.params3] at hA hval hsz
  obtain ⟨v0, vs0, d0, ds0, p0, q0, hargs, rfl, rfl, h0, r0⟩ := trodAll_cons hA
  obtain ⟨v1, vs1, d1, ds1, p1, q1, rfl, rfl, rfl, h1, r1⟩ := trodAll_cons r0
  obtain ⟨v2, vs2, d2, ds2, p2, q2, rfl, rfl, rfl, h2, r2⟩ := trodAll_cons r1
  obtain ⟨v3, vs3, d3, ds3, p3, q3, rfl, rfl, rfl, h3, r3⟩ := trodAll_cons r2
  obtain ⟨rfl, rfl, rfl⟩ := trodAll_nil r3
  obtain rfl : args = #[v0, v1, v2, v3] := by cases args; simp_all
  obtain ⟨rfl, rfl⟩ := trodVars_none hV
  have k0 := h0
  have lt0 : ∀ x ∈ p0, x.block < W.heap.size := by obtain ⟨m, hm⟩ := k0; exact DataW.trod_lt m _ _ _ hm
  obtain ⟨x0, rfl⟩ := open_link h0
  obtain ⟨a1, len1, cap1, rfl⟩ := okWide_slice Tryz.underlying24 (hval 1 24 v1 rfl rfl)
  have k1 := h1
  have lt1 : ∀ x ∈ p1, x.block < W.heap.size := by obtain ⟨m, hm⟩ := k1; exact DataW.trod_lt m _ _ _ hm
  obtain ⟨xs1, rfl, hcells1, hnil1, hdat1⟩ := open_bytes Tryz.underlying24 Tryz.underlying5 (by kernel_rfl) h1
  obtain ⟨y2, rfl, rfl, rfl, w2⟩ := open_int Tryz.underlying25 (hval 2 25 v2 rfl rfl) h2
  have bd2 := bounds_u32 w2
  obtain ⟨x2, rfl⟩ := Int.eq_ofNat_of_zero_le bd2.1
  have hv2 : x2 ≤ 4294967295 := by omega
  obtain ⟨x3, rfl, rfl, rfl, w3⟩ := open_int Tryz.underlying3 (hval 3 3 v3 rfl rfl) h3
  have hlen1 : xs1.length * 1 ≤ 140737488351232 := by
    rcases hdat1 with ⟨_, rfl⟩ | ⟨elems, spare, rfl, hle⟩
    · simp
    · have := sized_slice hsz (j := 1) (t := 24) (e := 5) rfl rfl Tryz.underlying24
      rw [bytes5] at this
      unfold reachBytes at this
      omega
  clear hA0 hval0
  refine (walk x0 a1 cap1 xs1 x2 x3 W hcells1 hnil1 (by omega) hv2).mono fun e W' ⟨he, hg⟩ => ?_
  subst he
  have bel : Below W.heap.size W W' := (Below.refl _ _).grown hg (Nat.le_refl _) (by simp)
  exact ⟨_, rfl, _, _, _, [], _, [], hW', trodAll_mk1 (shut_bool Tryz.underlying4 _), (trodAll_cons_mk (Below.trod laidOut (by kernel_rfl) (of_decide_eq_true (by kernel_rfl)) k0 bel lt0) (trodAll_cons_mk (Below.trod laidOut (by kernel_rfl) (of_decide_eq_true (by kernel_rfl)) k1 bel lt1) (trodAll_cons_mk (shut_int Tryz.underlying25 w2) (trodAll_cons_mk (shut_int Tryz.underlying3 w3) trodAll_mk0)))), rfl, bel.frame _, fun h => by cases h⟩

theorem over : Rows.MeanLoadsSaid :=
  OpenClaim.holds_of_wide 3 Tryz.f3 rfl rfl rfl rfl rfl rfl rfl ⟨rfl, rfl, rfl, rfl, rfl⟩ rfl rfl rfl rfl rfl (by kernel_rfl) Tryz.func3 (by kernel_rfl)
    (of_decide_eq_true (by kernel_rfl)) (by unfold Func.isWrapper; first | (rw [if_pos (by decide +kernel)]; kernel_rfl) | (rw [if_neg (by decide +kernel)]; exact ⟨rfl, rfl⟩))
    (fun os started H enc _ => lifted os started H enc)

end meanLoads

theorem meanLoads_holds : Rows.MeanLoadsSaid := meanLoads.over
#print axioms meanLoads_holds

end Go.Proofs.YtnaifabifemhiabGreat
