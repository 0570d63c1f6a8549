/-
  For every list of nodes, link, way and bytes riddlelaw14.MeanMalformed returns true and leaves what was there as it was: no condition of ours.
-/
import Derived.Test.YtnaifabifemhiaaGreatLotP45
import Derived.Test.YtnaifabifemhiaaGreatLotP46
import Derived.Test.YtnaifabifemhiaaGreatLotP30
import Derived.Deep.DeepCutAuto
namespace Go.Proofs.YtnaifabifemhiaaGreat
open Go.ChangeShapes Go.WideShapes Go.ChangeAt Go.RowKit
set_option maxRecDepth 100000
namespace meanMalformed

theorem bld_not (W : World) : (Instr.build 44 #[(0, .int .i64 9)]).run Tryz.prog W = .ok (.agg noN.cells.toArray) W := by kernel_rfl
theorem bld_way1 (W : World) : (Instr.build 44 #[(0, .int .i64 10), (6, .int .i64 1)]).run Tryz.prog W = .ok (.agg (wyN 1).cells.toArray) W := by kernel_rfl
theorem bld_way2 (W : World) : (Instr.build 44 #[(0, .int .i64 10), (6, .int .i64 2)]).run Tryz.prog W = .ok (.agg (wyN 2).cells.toArray) W := by kernel_rfl

set_option maxRecDepth 100000 in
set_option maxHeartbeats 16000000 in
theorem walk (ao : Option Addr) (cap : Nat) (t : List Ng) (l : Lk) (way : Int) (a : Option Addr) (ca : Nat) (b : List UInt8) (w : World) (hA : CV w ao (flatG t)) (ha0 : ao = none → cap = 0) (_hac : t.length ≤ cap) (_hax : cap ≤ maxLen) (hal : t.length * 72 ≤ 140737488351232) (hao : ∀ x ∈ t, x.ok) (hb : Cells w a b) (hb0 : a = none → ca = 0) (hbn : b.length ≤ 140737488351232) :
    Calls Tryz.prog 7 #[.slice ao t.length cap, .agg (lkA l), .int .i64 way, .slice a b.length ca] w fun e w' => e = .returned (.bool true) ∧ w.grownBy w' none := by
  have hn : ∀ x ∈ t, x.n ≤ 4294967295 := fun x hx => (hao x hx).1
  have HBL := box_lk l
  have K1 := World.grownBy_alloc w (.cells (lkA l) 24) none
  have HLS := lk_sz l
  have HJT : Hid (∀ W, w.grownBy W none → Calls Tryz.prog 19 #[.slice ao t.length cap, .agg (lkA l), .int .i64 way, .slice a b.length ca] W fun e w' => e = .returned (.int .i64 (lawJ t l way b)) ∧ W.grownBy w' none) := fun W K => ljudge_any ao cap t l way a ca b W (hA.keptNone K) ha0 (by omega) hn (hb.keptNone K) hb0 (by omega)
  have HJU : Hid (∀ (u : List Ng) (n cu : Nat) (W : World) (au : Option Addr), u.length = n → CV W au (flatG u) → (au = none → cu = 0) → n * 72 ≤ 140737488355328 → (∀ x ∈ u, x.n ≤ 4294967295) → w.grownBy W none → Calls Tryz.prog 19 #[.slice au n cu, .agg (lkA l), .int .i64 way, .slice a b.length ca] W fun e w' => e = .returned (.int .i64 (lawJ u l way b)) ∧ W.grownBy w' none) := fun u n cu W au hu h1 h2 h3 h4 K => by
    subst hu
    exact ljudge_any au cu u l way a ca b W h1 h2 h3 h4 (hb.keptNone K) hb0 (by omega)
  have HCN : Hid (∀ W, w.grownBy W none → Calls Tryz.prog 21 #[.slice ao t.length cap] W fun e w' => ∃ v, e = .returned v ∧ NgOwns w' W.heap.size v t ∧ W.grownBy w' none) := fun W K => gcopy_any ao cap t W (hA.keptNone K) ha0 (by omega)
  have HCB0 : Hid (∀ W, w.grownBy W none → Calls Tryz.prog 22 #[.slice a b.length ca] W fun e w' => ∃ v, e = .returned v ∧ Owns w' W.heap.size v b ∧ W.grownBy w' none) := fun W K => copy_any a ca b W (hb.keptNone K) hb0 (by omega)
  have HWT : Hid (∀ (W : World) (au : Option Addr) (cu : Nat), CV W au (flatG t) → Calls Tryz.prog 20 #[.slice au t.length cu] W fun e w' => e = .returned (.int .i64 (weightG t : Int)) ∧ W.grownBy w' none) := fun W au cu h => weight_any au cu t W h (by omega)
  obtain ⟨E, hE⟩ : ∃ E, exE (lookX l b) = E := ⟨_, rfl⟩
  obtain ⟨X, hX⟩ : ∃ X, vwA (exV Vw.zero (lookX l b)) = X := ⟨_, rfl⟩
  have HLK : Hid (∀ (au : Option Addr) (cu : Nat) (W : World), Cells W au b → Calls Tryz.prog 23 #[.agg (lkA l), .slice au b.length cu] W fun e w' => e = .returned (.tuple #[.agg X, .int .i64 E]) ∧ W.grownBy w' none) := fun au cu W h => by
    have k := look_any l au cu b W h (by omega)
    rw [hE, hX] at k
    exact k
  have HXS : Hid ((Tryz.prog.info? 47).map (·.size) = some X.size ∧ (vwA Vw.zero).size = X.size ∧ X.all (·.oneCell') = true) := by
    show _ ∧ _ ∧ _
    rw [← hX]
    exact ⟨vw_sz _, rfl, vwA_all _⟩
  have HP := fun h => mal_pure (t := t) (l := l) (way := way) (b := b) h
  rw [hE] at HP
  have HPP : Hid _ := HP
  have HN5 : Hid (∀ x ∈ t ++ [noN], x.n ≤ 4294967295) := fun x hx => by
    rcases List.mem_append.1 hx with h | h
    · exact hn x h
    · rw [List.mem_singleton.1 h]; decide
  have HTL : Hid ((t.length + 1) * 72 ≤ 140737488355328) := by show _ ≤ _; omega
  obtain ⟨i0, hi, hz0, hz1, hz2⟩ := ng_zero
  have HB9 := bld_not
  have HBW1 := bld_way1
  have HBW2 := bld_way2
  have HL9 := lit_ng1 noN
  have HLW1 := lit_ng1 (wyN 1)
  have HLW2 := lit_ng1 (wyN 2)
  clear hA ha0 hal hao hb hb0 hbn hn hE hX HP _hac _hax
  obtain ⟨LA, hLA⟩ : ∃ LA, lkA l = LA := ⟨_, rfl⟩
  have V1 : VAt (w.alloc (.cells LA 24)) w.heap.size 24 LA := VAt.alloc _ _ _
  rw [hLA] at HBL K1 HJT HJU HLK HLS ⊢
  clear hLA
  obtain ⟨N9, h9⟩ : ∃ N9, noN.cells.toArray = N9 := ⟨_, rfl⟩
  obtain ⟨NW1, hw1⟩ : ∃ NW1, (wyN 1).cells.toArray = NW1 := ⟨_, rfl⟩
  obtain ⟨NW2, hw2⟩ : ∃ NW2, (wyN 2).cells.toArray = NW2 := ⟨_, rfl⟩
  rw [h9] at HB9 HL9
  rw [hw1] at HBW1 HLW1
  rw [hw2] at HBW2 HLW2
  clear h9 hw1 hw2
  obtain ⟨jt, hjt⟩ : ∃ j, lawJ t l way b = j := ⟨_, rfl⟩
  obtain ⟨jn, hjn⟩ : ∃ j, lawJ (t ++ [noN]) l way b = j := ⟨_, rfl⟩
  obtain ⟨j1, hj1⟩ : ∃ j, lawJ [wyN 1] l way b = j := ⟨_, rfl⟩
  obtain ⟨j2, hj2⟩ : ∃ j, lawJ [wyN 2] l way b = j := ⟨_, rfl⟩
  have HJN : Hid (lawJ (t ++ [noN]) l way b = jn ∧ lawJ [wyN 1] l way b = j1 ∧ lawJ [wyN 2] l way b = j2) := ⟨hjn, hj1, hj2⟩
  rw [hjt, hjn, hj1, hj2] at HPP
  rw [hjt] at HJT
  clear hjt hjn hj1 hj2
  obtain ⟨wt, hwt⟩ : ∃ wt, weightG t = wt := ⟨_, rfl⟩
  rw [hwt] at HPP HWT
  clear hwt
  go_enter Tryz.func7, Tryz.ntmps7
  go_upto_region 1 with fail
  generalize w.alloc (.cells LA 24) = w1 at *
  generalize w.heap.size = B at *
  clear HBL
  go_wp2_with (refine wpList_load_row rfl 24 (.tmp 5) rfl B rfl 24 LA (0, 0) _ V1 Tryz.underlying24 rfl HLS ?_)
  refine (HJT.out _ K1).mono ?_
  rintro e wa ⟨rfl, Ka⟩
  have HVL : Hid (VAt wa B 24 LA) := V1.kept Ka
  have HGA : Hid (w.grownBy wa none) := grown_trans K1 Ka
  have HCB : Hid (∀ W, wa.grownBy W none → Calls Tryz.prog 22 #[.slice a b.length ca] W fun e w' => ∃ v, e = .returned v ∧ Owns w' W.heap.size v b ∧ W.grownBy w' none) := fun W K => HCB0.out W (grown_trans HGA.out K)
  clear V1 K1 Ka
  go_upto_region 2 with fail
  go_cut [10, 11] from 20 to 26 (fun s e wx => ∃ V, s = .pointer (some ⟨V, 0, none⟩) ∧ e = .int .i64 E ∧ VAt wx V 47 X ∧ wa.grownBy wx none)
  case first =>
    refine wp_region_held_drew (S := fun W => VAt W B 24 LA ∧ wa.grownBy W none) (by kernel_rfl) (⟨HVL.out.kept (grown_drewN wa 1 none), grown_drewN wa 1 none⟩) (fun hHeld => ?_)
    refine wpAnyH_take (i := 0) (v := .agg (LA)) rfl (by kernel_rfl) (by kernel_rfl) (by kernel_rfl) (fun _ _ _ h => h) (yieldsIf_load_row (by rfl) _ _ rfl B rfl 24 (LA) _ (fun W hW => hW.1) Tryz.underlying24 rfl HLS) hHeld ?_
    try simp only [Act.put, List.getElem_toArray, List.getElem_cons_zero, List.setIfInBounds_toArray, List.set_cons_zero, List.set_cons_succ]
    refine wpAnyH_take (i := 1) (v := .slice a b.length ca) rfl (by kernel_rfl) (by kernel_rfl) (by kernel_rfl) (fun _ _ _ h => h) (Or.inl ⟨by rfl, fun W hW => ?_⟩) hHeld ?_
    · clear hW
      go_simp
    try simp only [Act.put, List.getElem_toArray, List.getElem_cons_zero, List.getElem_cons_succ, List.setIfInBounds_toArray, List.set_cons_zero, List.set_cons_succ]
    refine wpAnyH_ready (rs := [2, 7]) (by kernel_rfl) (by simp) (AllReadyH.cons rfl (fun K hK => ?_) (AllReadyH.cons rfl (fun K hK => ?_) AllReadyH.nil))
    · skip
      go_simp
      refine (HCB.out _ hHeld.2).mono ?_
      rintro e w2 ⟨v2, rfl, O2, K2⟩
      obtain ⟨a2, c2, hv2, C2, -⟩ := cv_of_row O2
      subst hv2
      have C2 := C2.cells
      go_wp2_with fail
      refine hK.out _ _ (⟨hHeld.1.kept K2, grown_trans hHeld.2 K2⟩) (fun hHeld => ?_)
      clear hK K
      try simp only [Act.put, List.getElem_toArray, List.getElem_cons_zero, List.getElem_cons_succ, List.setIfInBounds_toArray, List.set_cons_zero, List.set_cons_succ]
      refine wpAnyH_ready (rs := [3, 7]) (by kernel_rfl) (by simp) (AllReadyH.cons rfl (fun K hK => ?_) (AllReadyH.cons rfl (fun K hK => ?_) AllReadyH.nil))
      · skip
        go_simp
        refine (HLK.out _ _ _ C2).mono ?_
        rintro e w3 ⟨rfl, K3⟩
        go_wp2_with fail
        refine hK.out _ _ (⟨hHeld.1.kept K3, grown_trans hHeld.2 K3⟩) (fun hHeld => ?_)
        clear hK K
        try simp only [Act.put, List.getElem_toArray, List.getElem_cons_zero, List.getElem_cons_succ, List.setIfInBounds_toArray, List.set_cons_zero, List.set_cons_succ]
        refine wpAnyH_take (i := 4) (v := .tuple #[.agg X, .int .i64 E]) rfl (by kernel_rfl) (by kernel_rfl) (by kernel_rfl) (fun _ _ _ h => h) (Or.inl ⟨by rfl, fun W hW => ?_⟩) hHeld ?_
        · clear hW
          go_simp
        try simp only [Act.put, List.getElem_toArray, List.getElem_cons_zero, List.getElem_cons_succ, List.setIfInBounds_toArray, List.set_cons_zero, List.set_cons_succ]
        refine wpAnyH_take (i := 5) (v := .agg X) rfl (by kernel_rfl) (by kernel_rfl) (by kernel_rfl) (fun _ _ _ h => h) (Or.inl ⟨by rfl, fun W hW => ?_⟩) hHeld ?_
        · clear hW
          go_simp
        try simp only [Act.put, List.getElem_toArray, List.getElem_cons_zero, List.getElem_cons_succ, List.setIfInBounds_toArray, List.set_cons_zero, List.set_cons_succ]
        refine wpAnyH_take (i := 6) (v := .int .i64 E) rfl (by kernel_rfl) (by kernel_rfl) (by kernel_rfl) (fun _ _ _ h => h) (Or.inl ⟨by rfl, fun W hW => ?_⟩) hHeld ?_
        · clear hW
          go_simp
        try simp only [Act.put, List.getElem_toArray, List.getElem_cons_zero, List.getElem_cons_succ, List.setIfInBounds_toArray, List.set_cons_zero, List.set_cons_succ]
        refine wpAnyH_ready (rs := [7]) (by kernel_rfl) (by simp) (AllReadyH.cons rfl (fun K hK => ?_) AllReadyH.nil)
        refine step_alloc (by rfl) 47 (by rfl) (vwA Vw.zero) alloc_view ?_
        intro V w7 AV K7 hbV
        have HbV : Hid (wa.heap.size ≤ V) := Nat.le_trans hHeld.2.size hbV
        refine hK.out _ _ (⟨hHeld.1.kept K7, grown_trans hHeld.2 K7⟩) (fun hHeld => ?_)
        clear hK K
        try simp only [Act.put, List.getElem_toArray, List.getElem_cons_zero, List.getElem_cons_succ, List.setIfInBounds_toArray, List.set_cons_zero, List.set_cons_succ]
        refine wpAnyH_ready (rs := [8]) (by kernel_rfl) (by simp) (AllReadyH.cons rfl (fun K hK => ?_) AllReadyH.nil)
        refine step_store_rowM (by rfl) 47 (.tmp 10) (.tmp 25) (by rfl) V X (by rfl) (by rfl) 47 _ AV HXS.out.1 HXS.out.2.1 HXS.out.2.2 ?_
        have AV2 := AV.setRow X
        refine hK.out _ _ ⟨VAt.other hHeld.1 _ (fun e => by have := HVL.out.lt; have := HbV.out; omega), vgrown_setRow hHeld.2 V _ (.inr HbV.out)⟩ (fun hHeld => ?_)
        clear hK K
        try simp only [Act.put]
        refine wpAnyH_take (i := 9) (v := .int .i64 E) rfl (by kernel_rfl) (by kernel_rfl) (by kernel_rfl) (fun _ _ _ h => h) (Or.inl ⟨by rfl, fun W hW => ?_⟩) hHeld ?_
        · clear hW
          go_simp
        try simp only [Act.put, List.getElem_toArray, List.getElem_cons_zero, List.getElem_cons_succ, List.setIfInBounds_toArray, List.set_cons_zero, List.set_cons_succ]
        refine wpAnyH_done (by kernel_rfl) ?_ _
        have HFIN : Hid (VAt _ V 47 X ∧ wa.grownBy _ none) := ⟨AV2, hHeld.2⟩
        clear hHeld AV2
        go_wp2
        go_meet
        exact ⟨V, rfl, rfl, HFIN.out.1, HFIN.out.2⟩
      · skip
        refine step_alloc (by rfl) 47 (by rfl) (vwA Vw.zero) alloc_view ?_
        intro V w7 AV K7 hbV
        have HbV : Hid (wa.heap.size ≤ V) := Nat.le_trans hHeld.2.size hbV
        have C2 := C2.keptNone K7
        refine hK.out _ _ (⟨hHeld.1.kept K7, grown_trans hHeld.2 K7⟩) (fun hHeld => ?_)
        clear hK K
        try simp only [Act.put, List.getElem_toArray, List.getElem_cons_zero, List.getElem_cons_succ, List.setIfInBounds_toArray, List.set_cons_zero, List.set_cons_succ]
        refine wpAnyH_ready (rs := [3]) (by kernel_rfl) (by simp) (AllReadyH.cons rfl (fun K hK => ?_) AllReadyH.nil)
        go_simp
        refine (HLK.out _ _ _ C2).mono ?_
        rintro e w3 ⟨rfl, K3⟩
        have AV := AV.kept K3
        go_wp2_with fail
        refine hK.out _ _ (⟨hHeld.1.kept K3, grown_trans hHeld.2 K3⟩) (fun hHeld => ?_)
        clear hK K
        try simp only [Act.put, List.getElem_toArray, List.getElem_cons_zero, List.getElem_cons_succ, List.setIfInBounds_toArray, List.set_cons_zero, List.set_cons_succ]
        refine wpAnyH_take (i := 4) (v := .tuple #[.agg X, .int .i64 E]) rfl (by kernel_rfl) (by kernel_rfl) (by kernel_rfl) (fun _ _ _ h => h) (Or.inl ⟨by rfl, fun W hW => ?_⟩) hHeld ?_
        · clear hW
          go_simp
        try simp only [Act.put, List.getElem_toArray, List.getElem_cons_zero, List.getElem_cons_succ, List.setIfInBounds_toArray, List.set_cons_zero, List.set_cons_succ]
        refine wpAnyH_take (i := 5) (v := .agg X) rfl (by kernel_rfl) (by kernel_rfl) (by kernel_rfl) (fun _ _ _ h => h) (Or.inl ⟨by rfl, fun W hW => ?_⟩) hHeld ?_
        · clear hW
          go_simp
        try simp only [Act.put, List.getElem_toArray, List.getElem_cons_zero, List.getElem_cons_succ, List.setIfInBounds_toArray, List.set_cons_zero, List.set_cons_succ]
        refine wpAnyH_take (i := 6) (v := .int .i64 E) rfl (by kernel_rfl) (by kernel_rfl) (by kernel_rfl) (fun _ _ _ h => h) (Or.inl ⟨by rfl, fun W hW => ?_⟩) hHeld ?_
        · clear hW
          go_simp
        try simp only [Act.put, List.getElem_toArray, List.getElem_cons_zero, List.getElem_cons_succ, List.setIfInBounds_toArray, List.set_cons_zero, List.set_cons_succ]
        refine wpAnyH_ready (rs := [8]) (by kernel_rfl) (by simp) (AllReadyH.cons rfl (fun K hK => ?_) AllReadyH.nil)
        refine step_store_rowM (by rfl) 47 (.tmp 10) (.tmp 25) (by rfl) V X (by rfl) (by rfl) 47 _ AV HXS.out.1 HXS.out.2.1 HXS.out.2.2 ?_
        have AV2 := AV.setRow X
        refine hK.out _ _ ⟨VAt.other hHeld.1 _ (fun e => by have := HVL.out.lt; have := HbV.out; omega), vgrown_setRow hHeld.2 V _ (.inr HbV.out)⟩ (fun hHeld => ?_)
        clear hK K
        try simp only [Act.put]
        refine wpAnyH_take (i := 9) (v := .int .i64 E) rfl (by kernel_rfl) (by kernel_rfl) (by kernel_rfl) (fun _ _ _ h => h) (Or.inl ⟨by rfl, fun W hW => ?_⟩) hHeld ?_
        · clear hW
          go_simp
        try simp only [Act.put, List.getElem_toArray, List.getElem_cons_zero, List.getElem_cons_succ, List.setIfInBounds_toArray, List.set_cons_zero, List.set_cons_succ]
        refine wpAnyH_done (by kernel_rfl) ?_ _
        have HFIN : Hid (VAt _ V 47 X ∧ wa.grownBy _ none) := ⟨AV2, hHeld.2⟩
        clear hHeld AV2
        go_wp2
        go_meet
        exact ⟨V, rfl, rfl, HFIN.out.1, HFIN.out.2⟩
    · skip
      refine step_alloc (by rfl) 47 (by rfl) (vwA Vw.zero) alloc_view ?_
      intro V w7 AV K7 hbV
      have HbV : Hid (wa.heap.size ≤ V) := Nat.le_trans hHeld.2.size hbV
      refine hK.out _ _ (⟨hHeld.1.kept K7, grown_trans hHeld.2 K7⟩) (fun hHeld => ?_)
      clear hK K
      try simp only [Act.put, List.getElem_toArray, List.getElem_cons_zero, List.getElem_cons_succ, List.setIfInBounds_toArray, List.set_cons_zero, List.set_cons_succ]
      refine wpAnyH_ready (rs := [2]) (by kernel_rfl) (by simp) (AllReadyH.cons rfl (fun K hK => ?_) AllReadyH.nil)
      go_simp
      refine (HCB.out _ hHeld.2).mono ?_
      rintro e w2 ⟨v2, rfl, O2, K2⟩
      obtain ⟨a2, c2, hv2, C2, -⟩ := cv_of_row O2
      subst hv2
      have C2 := C2.cells
      have AV := AV.kept K2
      go_wp2_with fail
      refine hK.out _ _ (⟨hHeld.1.kept K2, grown_trans hHeld.2 K2⟩) (fun hHeld => ?_)
      clear hK K
      try simp only [Act.put, List.getElem_toArray, List.getElem_cons_zero, List.getElem_cons_succ, List.setIfInBounds_toArray, List.set_cons_zero, List.set_cons_succ]
      refine wpAnyH_ready (rs := [3]) (by kernel_rfl) (by simp) (AllReadyH.cons rfl (fun K hK => ?_) AllReadyH.nil)
      go_simp
      refine (HLK.out _ _ _ C2).mono ?_
      rintro e w3 ⟨rfl, K3⟩
      have AV := AV.kept K3
      go_wp2_with fail
      refine hK.out _ _ (⟨hHeld.1.kept K3, grown_trans hHeld.2 K3⟩) (fun hHeld => ?_)
      clear hK K
      try simp only [Act.put, List.getElem_toArray, List.getElem_cons_zero, List.getElem_cons_succ, List.setIfInBounds_toArray, List.set_cons_zero, List.set_cons_succ]
      refine wpAnyH_take (i := 4) (v := .tuple #[.agg X, .int .i64 E]) rfl (by kernel_rfl) (by kernel_rfl) (by kernel_rfl) (fun _ _ _ h => h) (Or.inl ⟨by rfl, fun W hW => ?_⟩) hHeld ?_
      · clear hW
        go_simp
      try simp only [Act.put, List.getElem_toArray, List.getElem_cons_zero, List.getElem_cons_succ, List.setIfInBounds_toArray, List.set_cons_zero, List.set_cons_succ]
      refine wpAnyH_take (i := 5) (v := .agg X) rfl (by kernel_rfl) (by kernel_rfl) (by kernel_rfl) (fun _ _ _ h => h) (Or.inl ⟨by rfl, fun W hW => ?_⟩) hHeld ?_
      · clear hW
        go_simp
      try simp only [Act.put, List.getElem_toArray, List.getElem_cons_zero, List.getElem_cons_succ, List.setIfInBounds_toArray, List.set_cons_zero, List.set_cons_succ]
      refine wpAnyH_take (i := 6) (v := .int .i64 E) rfl (by kernel_rfl) (by kernel_rfl) (by kernel_rfl) (fun _ _ _ h => h) (Or.inl ⟨by rfl, fun W hW => ?_⟩) hHeld ?_
      · clear hW
        go_simp
      try simp only [Act.put, List.getElem_toArray, List.getElem_cons_zero, List.getElem_cons_succ, List.setIfInBounds_toArray, List.set_cons_zero, List.set_cons_succ]
      refine wpAnyH_ready (rs := [8]) (by kernel_rfl) (by simp) (AllReadyH.cons rfl (fun K hK => ?_) AllReadyH.nil)
      refine step_store_rowM (by rfl) 47 (.tmp 10) (.tmp 25) (by rfl) V X (by rfl) (by rfl) 47 _ AV HXS.out.1 HXS.out.2.1 HXS.out.2.2 ?_
      have AV2 := AV.setRow X
      refine hK.out _ _ ⟨VAt.other hHeld.1 _ (fun e => by have := HVL.out.lt; have := HbV.out; omega), vgrown_setRow hHeld.2 V _ (.inr HbV.out)⟩ (fun hHeld => ?_)
      clear hK K
      try simp only [Act.put]
      refine wpAnyH_take (i := 9) (v := .int .i64 E) rfl (by kernel_rfl) (by kernel_rfl) (by kernel_rfl) (fun _ _ _ h => h) (Or.inl ⟨by rfl, fun W hW => ?_⟩) hHeld ?_
      · clear hW
        go_simp
      try simp only [Act.put, List.getElem_toArray, List.getElem_cons_zero, List.getElem_cons_succ, List.setIfInBounds_toArray, List.set_cons_zero, List.set_cons_succ]
      refine wpAnyH_done (by kernel_rfl) ?_ _
      have HFIN : Hid (VAt _ V 47 X ∧ wa.grownBy _ none) := ⟨AV2, hHeld.2⟩
      clear hHeld AV2
      go_wp2
      go_meet
      exact ⟨V, rfl, rfl, HFIN.out.1, HFIN.out.2⟩

  case rest =>
    obtain ⟨V, rfl, rfl, -, K⟩ := hcut
    have HGW : Hid (w.grownBy wc none) := grown_trans HGA.out K
    have HVL2 : Hid (VAt wc B 24 LA) := HVL.out.kept K
    clear K HCB HLK HXS HVL HGA
    have HVL := HVL2
    clear HVL2
    by_cases hneg : jt < 0
    · go_wp2_with fail
      refine (awake14_any _).mono ?_
      rintro e w9 ⟨rfl, K9⟩
      go_wp2
      go_ret
      exact ⟨rfl, grown_trans HGW.out K9⟩
    · have HPQ : Hid _ := HPP.out (by omega)
      clear HPP
      go_upto_region 5 with fail
      obtain ⟨wb, rfl⟩ : ∃ wb : World, wb = wc := ⟨_, rfl⟩
      go_cut [12] from 30 to 38 (fun s wx => s = .int .i64 jn ∧ wb.grownBy wx none)
      case first =>
        refine wp_region_held_drew (S := fun W => VAt W B 24 LA ∧ wb.grownBy W none) (by kernel_rfl) (⟨HVL.out.kept (grown_drewN wb 1 none), grown_drewN wb 1 none⟩) (fun hHeld => ?_)
        refine wpAnyH_take (i := 0) (v := .slice ao t.length cap) rfl (by kernel_rfl) (by kernel_rfl) (by kernel_rfl) (fun _ _ _ h => h) (Or.inl ⟨by rfl, fun W hW => ?_⟩) hHeld ?_
        · clear hW
          go_simp
        try simp only [Act.put, List.getElem_toArray, List.getElem_cons_zero, List.setIfInBounds_toArray, List.set_cons_zero, List.set_cons_succ]
        refine wpAnyH_take (i := 2) (v := .agg N9) rfl (by kernel_rfl) (by kernel_rfl) (by kernel_rfl) (fun _ _ _ h => h) (yieldsIf_bld (by rfl) 44 _ (by rfl) #[(0, .int .i64 9)] (by kernel_rfl) (.agg N9) HB9) hHeld ?_
        try simp only [Act.put, List.getElem_toArray, List.getElem_cons_zero, List.getElem_cons_succ, List.setIfInBounds_toArray, List.set_cons_zero, List.set_cons_succ]
        refine wpAnyH_take (i := 5) (v := .agg (LA)) rfl (by kernel_rfl) (by kernel_rfl) (by kernel_rfl) (fun _ _ _ h => h) (yieldsIf_load_row (by rfl) _ _ rfl B rfl 24 (LA) _ (fun W hW => hW.1) Tryz.underlying24 rfl HLS) hHeld ?_
        try simp only [Act.put, List.getElem_toArray, List.getElem_cons_zero, List.getElem_cons_succ, List.setIfInBounds_toArray, List.set_cons_zero, List.set_cons_succ]
        refine wpAnyH_take (i := 6) (v := .int .i64 way) rfl (by kernel_rfl) (by kernel_rfl) (by kernel_rfl) (fun _ _ _ h => h) (Or.inl ⟨by rfl, fun W hW => ?_⟩) hHeld ?_
        · clear hW
          go_simp
        try simp only [Act.put, List.getElem_toArray, List.getElem_cons_zero, List.getElem_cons_succ, List.setIfInBounds_toArray, List.set_cons_zero, List.set_cons_succ]
        refine wpAnyH_take (i := 7) (v := .slice a b.length ca) rfl (by kernel_rfl) (by kernel_rfl) (by kernel_rfl) (fun _ _ _ h => h) (Or.inl ⟨by rfl, fun W hW => ?_⟩) hHeld ?_
        · clear hW
          go_simp
        try simp only [Act.put, List.getElem_toArray, List.getElem_cons_zero, List.getElem_cons_succ, List.setIfInBounds_toArray, List.set_cons_zero, List.set_cons_succ]
        refine wpAnyH_ready (rs := [1, 3]) (by kernel_rfl) (by simp) (AllReadyH.cons rfl (fun K hK => ?_) (AllReadyH.cons rfl (fun K hK => ?_) AllReadyH.nil))
        · skip
          go_simp
          refine (HCN.out _ (grown_trans HGW.out hHeld.2)).mono ?_
          rintro e w2 ⟨v2, rfl, O2, K2⟩
          have HO2 : Hid (wb.heap.size ≤ _) := hHeld.2.size
          have O2 := owns_mono O2 HO2.out
          go_wp2_with fail
          refine hK.out _ _ (⟨hHeld.1.kept K2, grown_trans hHeld.2 K2⟩) (fun hHeld => ?_)
          clear hK K
          try simp only [Act.put, List.getElem_toArray, List.getElem_cons_zero, List.getElem_cons_succ, List.setIfInBounds_toArray, List.set_cons_zero, List.set_cons_succ]
          refine wpAnyH_ready (rs := [3]) (by kernel_rfl) (by simp) (AllReadyH.cons rfl (fun K hK => ?_) AllReadyH.nil)
          refine step_lit (by rfl) 22 1 _ (by rfl) #[(0, .agg N9)] (by kernel_rfl) (flatG [noN]) 44 HL9 ?_
          intro ad w3 CL K3
          have O2 := owns_keptNone O2 K3
          refine hK.out _ _ (⟨hHeld.1.kept K3, grown_trans hHeld.2 K3⟩) (fun hHeld => ?_)
          clear hK K
          try simp only [Act.put, List.getElem_toArray, List.getElem_cons_zero, List.getElem_cons_succ, List.setIfInBounds_toArray, List.set_cons_zero, List.set_cons_succ]
          refine wpAnyH_ready (rs := [4]) (by kernel_rfl) (by simp) (AllReadyH.cons rfl (fun K hK => ?_) AllReadyH.nil)
          refine step_append_own (by rfl) (.tmp 31) (.tmp 33) 22 (by rfl) 44 i0 _ 24 72 Tryz.underlying22 hi hz0 hz1 hz2 rfl (by decide) wb.heap.size v2 t.length (flatG t) (by rfl) O2 ad 1 1 (flatG [noN]) (by rfl) rfl CL (flatG_one _) (by have := HTL.out; unfold maxLen; omega) (by have := HTL.out; omega) hHeld.2.size ?_
          intro v4 w4 O4 K4 B4
          have nB : ¬ v2.ownBlock = some B := fun e => by have := (O2.lt B e).1; have := HVL.out.lt; omega
          have hB4 := hHeld.1.grown K4 nB
          have hG4 : wb.grownBy w4 none := grown_trans_new hHeld.2 K4 (fun x hx => (O2.lt x hx).1)
          rw [← flatG_append] at O4
          obtain ⟨a4, c4, hv4, C4, -, -, h04, -⟩ := cv_of_row O4
          subst hv4
          refine hK.out _ _ ⟨hB4, hG4⟩ (fun hHeld => ?_)
          clear hK K
          try simp only [Act.put, List.getElem_toArray, List.getElem_cons_zero, List.getElem_cons_succ, List.setIfInBounds_toArray, List.set_cons_zero, List.set_cons_succ]
          refine wpAnyH_ready (rs := [8]) (by kernel_rfl) (by simp) (AllReadyH.cons rfl (fun K hK => ?_) AllReadyH.nil)
          go_simp
          refine (HJU.out (t ++ [noN]) (t.length + 1) c4 _ a4 (by simp) C4 h04 HTL.out HN5.out (grown_trans HGW.out hHeld.2)).mono ?_
          rintro e w5 ⟨rfl, K5⟩
          go_wp2_with fail
          refine hK.out _ _ (⟨hHeld.1.kept K5, grown_trans hHeld.2 K5⟩) (fun hHeld => ?_)
          clear hK K
          try simp only [Act.put, List.getElem_toArray, List.getElem_cons_zero, List.getElem_cons_succ, List.setIfInBounds_toArray, List.set_cons_zero, List.set_cons_succ]
          refine wpAnyH_take (i := 9) (v := .int .i64 (lawJ (t ++ [noN]) l way b)) rfl (by kernel_rfl) (by kernel_rfl) (by kernel_rfl) (fun _ _ _ h => h) (Or.inl ⟨by rfl, fun W hW => ?_⟩) hHeld ?_
          · clear hW
            go_simp
          try simp only [Act.put, List.getElem_toArray, List.getElem_cons_zero, List.getElem_cons_succ, List.setIfInBounds_toArray, List.set_cons_zero, List.set_cons_succ]
          refine wpAnyH_done (by kernel_rfl) ?_ _
          have HFIN : Hid (wb.grownBy _ none) := hHeld.2
          clear hHeld O4 K4 B4 CL O2 C4
          go_wp2
          go_meet
          exact ⟨by rw [HJN.out.1], HFIN.out⟩
        · skip
          refine step_lit (by rfl) 22 1 _ (by rfl) #[(0, .agg N9)] (by kernel_rfl) (flatG [noN]) 44 HL9 ?_
          intro ad w3 CL K3
          refine hK.out _ _ (⟨hHeld.1.kept K3, grown_trans hHeld.2 K3⟩) (fun hHeld => ?_)
          clear hK K
          try simp only [Act.put, List.getElem_toArray, List.getElem_cons_zero, List.getElem_cons_succ, List.setIfInBounds_toArray, List.set_cons_zero, List.set_cons_succ]
          refine wpAnyH_ready (rs := [1]) (by kernel_rfl) (by simp) (AllReadyH.cons rfl (fun K hK => ?_) AllReadyH.nil)
          go_simp
          refine (HCN.out _ (grown_trans HGW.out hHeld.2)).mono ?_
          rintro e w2 ⟨v2, rfl, O2, K2⟩
          have HO2 : Hid (wb.heap.size ≤ _) := hHeld.2.size
          have O2 := owns_mono O2 HO2.out
          have CL := CL.keptNone K2
          go_wp2_with fail
          refine hK.out _ _ (⟨hHeld.1.kept K2, grown_trans hHeld.2 K2⟩) (fun hHeld => ?_)
          clear hK K
          try simp only [Act.put, List.getElem_toArray, List.getElem_cons_zero, List.getElem_cons_succ, List.setIfInBounds_toArray, List.set_cons_zero, List.set_cons_succ]
          refine wpAnyH_ready (rs := [4]) (by kernel_rfl) (by simp) (AllReadyH.cons rfl (fun K hK => ?_) AllReadyH.nil)
          refine step_append_own (by rfl) (.tmp 31) (.tmp 33) 22 (by rfl) 44 i0 _ 24 72 Tryz.underlying22 hi hz0 hz1 hz2 rfl (by decide) wb.heap.size v2 t.length (flatG t) (by rfl) O2 ad 1 1 (flatG [noN]) (by rfl) rfl CL (flatG_one _) (by have := HTL.out; unfold maxLen; omega) (by have := HTL.out; omega) hHeld.2.size ?_
          intro v4 w4 O4 K4 B4
          have nB : ¬ v2.ownBlock = some B := fun e => by have := (O2.lt B e).1; have := HVL.out.lt; omega
          have hB4 := hHeld.1.grown K4 nB
          have hG4 : wb.grownBy w4 none := grown_trans_new hHeld.2 K4 (fun x hx => (O2.lt x hx).1)
          rw [← flatG_append] at O4
          obtain ⟨a4, c4, hv4, C4, -, -, h04, -⟩ := cv_of_row O4
          subst hv4
          refine hK.out _ _ ⟨hB4, hG4⟩ (fun hHeld => ?_)
          clear hK K
          try simp only [Act.put, List.getElem_toArray, List.getElem_cons_zero, List.getElem_cons_succ, List.setIfInBounds_toArray, List.set_cons_zero, List.set_cons_succ]
          refine wpAnyH_ready (rs := [8]) (by kernel_rfl) (by simp) (AllReadyH.cons rfl (fun K hK => ?_) AllReadyH.nil)
          go_simp
          refine (HJU.out (t ++ [noN]) (t.length + 1) c4 _ a4 (by simp) C4 h04 HTL.out HN5.out (grown_trans HGW.out hHeld.2)).mono ?_
          rintro e w5 ⟨rfl, K5⟩
          go_wp2_with fail
          refine hK.out _ _ (⟨hHeld.1.kept K5, grown_trans hHeld.2 K5⟩) (fun hHeld => ?_)
          clear hK K
          try simp only [Act.put, List.getElem_toArray, List.getElem_cons_zero, List.getElem_cons_succ, List.setIfInBounds_toArray, List.set_cons_zero, List.set_cons_succ]
          refine wpAnyH_take (i := 9) (v := .int .i64 (lawJ (t ++ [noN]) l way b)) rfl (by kernel_rfl) (by kernel_rfl) (by kernel_rfl) (fun _ _ _ h => h) (Or.inl ⟨by rfl, fun W hW => ?_⟩) hHeld ?_
          · clear hW
            go_simp
          try simp only [Act.put, List.getElem_toArray, List.getElem_cons_zero, List.getElem_cons_succ, List.setIfInBounds_toArray, List.set_cons_zero, List.set_cons_succ]
          refine wpAnyH_done (by kernel_rfl) ?_ _
          have HFIN : Hid (wb.grownBy _ none) := hHeld.2
          clear hHeld O4 K4 B4 CL O2 C4
          go_wp2
          go_meet
          exact ⟨by rw [HJN.out.1], HFIN.out⟩

      case rest =>
        obtain ⟨rfl, K⟩ := hcut
        have HG5 : Hid (w.grownBy wc none) := grown_trans HGW.out K
        have V5 := HVL.out.kept K
        clear K HVL HGW hi hz0 hz1 hz2 HL9 HB9
        obtain ⟨wd, rfl⟩ : ∃ wd : World, wd = wc := ⟨_, rfl⟩
        go_wp2_with (first
          | (refine wpList_load_row rfl 24 (.tmp 5) rfl B rfl 24 LA (0, 0) _ V6 Tryz.underlying24 rfl HLS ?_)
          | (refine wpList_bld rfl 44 #[(0, .const (.int .i64 10)), (6, .const (.int .i64 1))] rfl _ (by kernel_rfl) (.agg NW1) HBW1 ?_)
          | (refine wpList_lit (by rfl) 22 1 _ rfl #[(0, .agg NW1)] (by kernel_rfl) (flatG [wyN 1]) 44 HLW1 ?_; intro D1 w6 C6 K6; have V6 := V5.kept K6))
        refine (HJU.out [wyN 1] 1 1 w6 _ rfl C6 (by intro h; cases h) (by decide) (by intro x hx; rw [List.mem_singleton.1 hx]; decide) (grown_trans HG5.out K6)).mono ?_
        rw [HJN.out.2.1]
        rintro e w7 ⟨rfl, K7⟩
        have HG7 : Hid (w.grownBy w7 none) := grown_trans (grown_trans HG5.out K6) K7
        have V7 := V6.kept K7
        clear V6 V5 K6 K7 C6 HG5
        go_wp2_with (first
          | (refine wpList_load_row rfl 24 (.tmp 5) rfl B rfl 24 LA (0, 0) _ V8 Tryz.underlying24 rfl HLS ?_)
          | (refine wpList_bld rfl 44 #[(0, .const (.int .i64 10)), (6, .const (.int .i64 2))] rfl _ (by kernel_rfl) (.agg NW2) HBW2 ?_)
          | (refine wpList_lit (by rfl) 22 1 _ rfl #[(0, .agg NW2)] (by kernel_rfl) (flatG [wyN 2]) 44 HLW2 ?_; intro D2 w8 C8 K8; have V8 := V7.kept K8))
        refine (HJU.out [wyN 2] 1 1 w8 _ rfl C8 (by intro h; cases h) (by decide) (by intro x hx; rw [List.mem_singleton.1 hx]; decide) (grown_trans HG7.out K8)).mono ?_
        rw [HJN.out.2.2]
        rintro e w9 ⟨rfl, K9⟩
        have HG9 : Hid (w.grownBy w9 none) := grown_trans (grown_trans HG7.out K8) K9
        clear V8 V7 K8 K9 C8 HG7
        go_wp2_with fail
        refine (HCN.out _ HG9.out).mono ?_
        rintro e wq ⟨vq, rfl, Oq, Kq⟩
        obtain ⟨aq, cq, hvq, Cq, -⟩ := cv_of_row Oq
        subst hvq
        go_wp2_with fail
        refine (HWT.out _ _ _ Cq).mono ?_
        rintro e wr ⟨rfl, Kr⟩
        have HGR : Hid (w.grownBy wr none) := grown_trans (grown_trans HG9.out Kq) Kr
        clear HG9 Kq Kr Oq Cq HCN HWT HJU HJT HCB0
        have HAW : Hid (∀ W, w.grownBy W none → Calls Tryz.prog 16 #[] W fun e w' => e = .returned (.bool true) ∧ w.grownBy w' none) := fun W K => (awake14_any W).mono (fun e w' h => ⟨h.1, grown_trans K h.2⟩)
        by_cases hE0 : E = 0
        · subst hE0
          have HX2 := HPQ.out.2 rfl
          by_cases hw0 : way = 0
          · subst hw0
            obtain ⟨rfl, rfl⟩ := HX2.1 rfl
            by_cases hwt : wt = 3000
            · have e1 : ((wt : Int) == 3000) = true := by rw [beq_iff_eq]; omega
              clear hwt HX2 HPQ
              go_wp2_with fail
              refine (HAW.out _ HGR.out).mono ?_
              rintro e ws ⟨rfl, Ks⟩
              go_wp2
              go_ret
              exact ⟨rfl, Ks⟩
            · have e1 : ((wt : Int) == 3000) = false := by rw [beq_eq_false_iff_ne]; omega
              clear hwt HX2 HPQ
              go_wp2_with fail
              refine (HAW.out _ HGR.out).mono ?_
              rintro e ws ⟨rfl, Ks⟩
              go_wp2
              go_ret
              exact ⟨rfl, Ks⟩
          · obtain ⟨rfl, rfl⟩ := HX2.2 hw0
            have ew : (way == 0) = false := by rw [beq_eq_false_iff_ne]; exact hw0
            by_cases hwt : wt = 3000
            · have e1 : ((wt : Int) == 3000) = true := by rw [beq_iff_eq]; omega
              clear hwt HX2 HPQ hw0
              go_wp2_with fail
              refine (HAW.out _ HGR.out).mono ?_
              rintro e ws ⟨rfl, Ks⟩
              go_wp2
              go_ret
              exact ⟨rfl, Ks⟩
            · have e1 : ((wt : Int) == 3000) = false := by rw [beq_eq_false_iff_ne]; omega
              clear hwt HX2 HPQ hw0
              go_wp2_with fail
              refine (HAW.out _ HGR.out).mono ?_
              rintro e ws ⟨rfl, Ks⟩
              go_wp2
              go_ret
              exact ⟨rfl, Ks⟩
        · obtain ⟨rfl, hjn, rfl, rfl⟩ := HPQ.out.1 hE0
          have eE : (E != 0) = true := by rw [bne_iff_ne]; exact hE0
          by_cases hwt : wt = 3000
          · have e1 : ((wt : Int) == 3000) = true := by rw [beq_iff_eq]; omega
            clear hwt HPQ hE0 hjn
            go_wp2_with fail
            refine (HAW.out _ HGR.out).mono ?_
            rintro e ws ⟨rfl, Ks⟩
            go_wp2
            go_ret
            exact ⟨rfl, Ks⟩
          · have e1 : ((wt : Int) == 3000) = false := by rw [beq_eq_false_iff_ne]; omega
            have h2 := hjn hwt
            subst h2
            clear hwt HPQ hE0 hjn
            go_wp2_with fail
            refine (HAW.out _ HGR.out).mono ?_
            rintro e ws ⟨rfl, Ks⟩
            go_wp2
            go_ret
            exact ⟨rfl, Ks⟩

set_option maxRecDepth 100000 in
theorem lifted (os : Os) (started : os.Started) (H : Type) (enc : TypeId × Value → H) :
    ReturnsInHanded {} Tryz.checked os 7 .any (Rows.meanMalformedSpec.pre6 enc Tryz.prog Tryz.f7 Rows.meanMalformedRow.domain false) (Rows.meanMalformedSpec.post enc Tryz.prog Tryz.f7 false true false false) := by
  refine returnsInHanded_of_change_sized (C := Tryz.checked) own started (by kernel_rfl) Tryz.func7
    (ChangeSpec.witness6 (enc := enc) (C := Tryz.checked) false ⟨#[], #[.slice none 0 0, .agg #[.bool false, .bool false, .int .i64 0], .int .i64 0, .slice none 0 0], []⟩ 8 (by kernel_rfl) (by kernel_rfl) (by kernel_rfl) (by kernel_rfl)) ?_
  intro W base args ds gs before hval0 hW hcnd hsz0 _
  have hsz : (DataW.weightsEach Tryz.prog (Tryz.f7.params.toList ++ Rows.meanMalformedSpec.plain.varTypes Tryz.prog) (ds ++ gs)).all (· ≤ reachBytes) = true := hsz0
  have hval : ∀ (j : Nat) t v, Tryz.f7.params[j]? = some t → args[j]? = some v → Value.okWide Tryz.prog W .any base t v := hval0
  have hW' := hW
  obtain ⟨p, q, hA0, hV, rfl, hfz, hnd⟩ := hW
  have hA : DataW.TrodAll enc Tryz.prog W 0 (fun _ => true) true Tryz.f7.params.toList args.toList ds p := hA0
  rw [Tryz.params7] at hA hval hsz
  obtain ⟨v0, vs0, d0, ds0, p0, q0, hargs, rfl, rfl, h0, r0⟩ := trodAll_cons hA
  obtain ⟨v1, vs1, d1, ds1, p1, q1, rfl, rfl, rfl, h1, r1⟩ := trodAll_cons r0
  obtain ⟨v2, vs2, d2, ds2, p2, q2, rfl, rfl, rfl, h2, r2⟩ := trodAll_cons r1
  obtain ⟨v3, vs3, d3, ds3, p3, q3, rfl, rfl, rfl, h3, r3⟩ := trodAll_cons r2
  obtain ⟨rfl, rfl, rfl⟩ := trodAll_nil r3
  obtain rfl : args = #[v0, v1, v2, v3] := by cases args; simp_all
  obtain ⟨rfl, rfl⟩ := trodVars_none hV
  obtain ⟨a0, len0, cap0, rfl⟩ := okWide_slice Tryz.underlying22 (hval 0 22 v0 rfl rfl)
  have k0 := h0
  have lt0 : ∀ x ∈ p0, x.block < W.heap.size := by obtain ⟨m, hm⟩ := k0; exact DataW.trod_lt m _ _ _ hm
  obtain ⟨xs0, rfl, hcells0, hnil0, hcp0, hok0, hdat0⟩ := open_nodes h0
  have k1 := h1
  have lt1 : ∀ x ∈ p1, x.block < W.heap.size := by obtain ⟨m, hm⟩ := k1; exact DataW.trod_lt m _ _ _ hm
  obtain ⟨x1, rfl⟩ := open_link h1
  obtain ⟨x2, rfl, rfl, rfl, w2⟩ := open_int Tryz.underlying3 (hval 2 3 v2 rfl rfl) h2
  obtain ⟨a3, len3, cap3, rfl⟩ := okWide_slice Tryz.underlying25 (hval 3 25 v3 rfl rfl)
  have k3 := h3
  have lt3 : ∀ x ∈ p3, x.block < W.heap.size := by obtain ⟨m, hm⟩ := k3; exact DataW.trod_lt m _ _ _ hm
  obtain ⟨xs3, rfl, hcells3, hnil3, hdat3⟩ := open_bytes Tryz.underlying25 Tryz.underlying5 (by kernel_rfl) h3
  have hlen0 : xs0.length * 72 ≤ 140737488351232 := by
    rcases hdat0 with ⟨_, rfl⟩ | ⟨elems, spare, rfl, hle⟩
    · simp
    · have := sized_slice hsz (j := 0) (t := 22) (e := 44) rfl rfl Tryz.underlying22
      rw [bytes44] at this
      unfold reachBytes at this
      omega
  have hlen3 : xs3.length * 1 ≤ 140737488351232 := by
    rcases hdat3 with ⟨_, rfl⟩ | ⟨elems, spare, rfl, hle⟩
    · simp
    · have := sized_slice hsz (j := 3) (t := 25) (e := 5) rfl rfl Tryz.underlying25
      rw [bytes5] at this
      unfold reachBytes at this
      omega
  clear hA0 hval0
  refine (walk a0 cap0 xs0 x1 x2 a3 cap3 xs3 W hcells0 hnil0 hcp0.1 hcp0.2 (by omega) hok0 hcells3 hnil3 (by omega)).mono fun e W' ⟨he, hg⟩ => ?_
  subst he
  have bel : Below W.heap.size W W' := (Below.refl _ _).grown hg (Nat.le_refl _) (by simp)
  exact ⟨_, rfl, _, _, _, [], _, [], hW', trodAll_mk1 (shut_bool Tryz.underlying4 _), (trodAll_cons_mk (Below.trod laidOut (by kernel_rfl) (of_decide_eq_true (by kernel_rfl)) k0 bel lt0) (trodAll_cons_mk (Below.trod laidOut (by kernel_rfl) (of_decide_eq_true (by kernel_rfl)) k1 bel lt1) (trodAll_cons_mk (shut_int Tryz.underlying3 w2) (trodAll_cons_mk (Below.trod laidOut (by kernel_rfl) (of_decide_eq_true (by kernel_rfl)) k3 bel lt3) trodAll_mk0)))), rfl, bel.frame _, fun h => by cases h⟩

theorem over : Rows.MeanMalformedSaid :=
  OpenClaim.holds_of_wide 7 Tryz.f7 rfl rfl rfl rfl rfl rfl rfl ⟨rfl, rfl, rfl, rfl, rfl⟩ rfl rfl rfl rfl rfl (by kernel_rfl) Tryz.func7 (by kernel_rfl)
    (of_decide_eq_true (by kernel_rfl)) (by unfold Func.isWrapper; first | (rw [if_pos (by decide +kernel)]; kernel_rfl) | (rw [if_neg (by decide +kernel)]; exact ⟨rfl, rfl⟩))
    (fun os started H enc _ => lifted os started H enc)

end meanMalformed

theorem meanMalformed_holds : Rows.MeanMalformedSaid := meanMalformed.over
#print axioms meanMalformed_holds

end Go.Proofs.YtnaifabifemhiaaGreat
