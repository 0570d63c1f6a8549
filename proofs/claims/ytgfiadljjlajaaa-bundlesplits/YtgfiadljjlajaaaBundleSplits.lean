/-
  For every link, every list of bytes (of at most 2^47 - 4096 bytes of room, as the form itself says of each argument), every int and every uint32 riddlelaw9.BundleSplits returns true and leaves what was there as it was: no condition of ours.
-/
import Derived.Test.YtgfiadljjlajaaaBundleX
import Derived.Test.YtgfiadljjlajaaaHand
import Derived.Test.YtgfiadljjlajaaaSpoil
import Derived.Test.YtgfiadljjlajaaaOpen
import Derived.Test.YtgfiadljjlajaaaOpenL
import Derived.BigQuiet
namespace Go.Proofs.Ytgfiadljjlajaaa
open Go.ChangeShapes Go.WideShapes Go.ChangeAt Go.RowKit
open Go.ChangeMaps (open_string shut_string)
set_option maxRecDepth 100000
namespace bundleSplits

set_option maxRecDepth 100000 in
set_option maxHeartbeats 8000000 in
theorem walk (l : Lk) (a : Option Addr) (ca : Nat) (b : List UInt8) (most : Int) (f : Nat) (w : World) (ha : Cells w a b) (hc0 : a = none → ca = 0) (hn : b.length ≤ 140737488351232) (hca : b.length ≤ ca) (_hf : f ≤ 4294967295) :
    Calls Try.prog 3 #[.agg (lkA l), .slice a b.length ca, .int .i64 most, .int .u32 (f : Int)] w fun e w' => e = .returned (.bool true) ∧ w.grownBy w' none := by
  have H : Hid (Cells w a b) := ha
  have HLS : Hid ((Try.prog.info? 23).map (·.size) = some (lkA l).size) := size23
  obtain ⟨hR1, hR2⟩ := split_small l b most f
  have HRS : Hid (∀ (W : World), Cells W a b → Calls Try.prog 9 #[.agg (lkA l), .slice a b.length ca, .int .i64 most, .int .u32 (f : Int)] W fun e w' => ∃ v, e = .returned (.tuple #[v, .int .i64 (exE (splitX l b most f))]) ∧ LL w' W.heap.size v (exV [] (splitX l b most f)) ∧ W.grownBy w' none) := fun W h => refsplit_any l a ca b most f W h hc0 hca (by omega)
  have HSPL : Hid (∀ (W : World) (ao : Option Addr) (q : Nat), Cells W ao b → (ao = none → q = 0) → b.length ≤ q → Calls Try.prog 11 #[.agg (lkA l), .slice ao b.length q, .int .i64 most, .int .u32 (f : Int)] W fun e w' => ∃ v, e = .returned (.tuple #[v, .int .i64 (exE (splitX l b most f))]) ∧ LL w' W.heap.size v (exV [] (splitX l b most f)) ∧ W.grownBy w' none) := fun W ao q h1 h2 h3 => split_any l ao q b most f W h1 h2 h3 (by omega)
  generalize exV [] (splitX l b most f) = R at *
  generalize exE (splitX l b most f) = E at *
  have HR2 : Hid (∀ p ∈ R, p.length ≤ 70000) := hR2
  have LK := VAt.alloc w 23 (lkA l)
  have GL := World.grownBy_alloc w (.cells (lkA l) 23) none
  clear ha hR2
  go_enter Try.func3, Try.ntmps3
  go_upto_region 1 with fail
  generalize w.alloc (.cells (lkA l) 23) = w1 at *
  obtain ⟨L, hL⟩ : ∃ L, w.heap.size = L := ⟨_, rfl⟩
  have HLw : Hid (w.heap.size = L) := hL
  rw [hL] at LK ⊢
  clear hL
  go_wp2_with (refine wpList_load_row rfl 23 (.tmp 4) rfl L rfl 23 (lkA l) (0, 0) _ LK Try.underlying23 rfl HLS.out ?_)
  refine (HRS.out _ (H.out.keptNone GL)).mono ?_
  rintro e w2 ⟨vw, rfl, ⟨vsw, LW2⟩, K2⟩
  have HWB : Hid _ := below_all LW2
  have LK2 := LK.kept K2
  have G2 := grown_trans GL K2
  have HB1 : Hid (w1.heap.size ≤ w2.heap.size ∧ L < w1.heap.size) := ⟨K2.size, LK.lt⟩
  clear LK GL HRS K2
  go_wp2_with fail
  refine (lend_any a ca b _ (H.out.keptNone G2) hc0 hn).mono ?_
  rintro e w3 ⟨v3, rfl, ⟨g, cap, rfl, hcap, hcm, hg1, hg2, hown⟩, K3'⟩
  have LK3 := LK2.kept K3'
  have LW3 := LW2.keptNone K3'
  have G3 := grown_trans G2 K3'
  have C3' := (cells_front hown).1
  have HB2 : Hid (w2.heap.size ≤ w3.heap.size) := K3'.size
  clear LK2 LW2 K3'
  go_wp2_with (refine wpList_load_row rfl 23 (.tmp 4) rfl L rfl 23 (lkA l) (0, 0) _ LK3 Try.underlying23 rfl HLS.out ?_)
  refine (HSPL.out _ _ _ C3' (by simp) (by omega)).mono ?_
  rintro e w4 ⟨vx, rfl, ⟨vsx, LX4⟩, K4⟩
  have LK4 := LK3.kept K4
  have LW4 := LW3.keptNone K4
  have G4 := grown_trans G3 K4
  have own4 := hown.kept K4 (by simp [Value.ownBlock])
  have HXB4 := below_all LX4
  clear LK3 LW3 K4 hown C3'
  go_wp2_with fail
  refine (kept_any g cap a ca b _ (owns_mono own4 (Nat.zero_le _)) (H.out.keptNone G4) hn).mono ?_
  rintro e w6 ⟨rfl, K6⟩
  have LK6 : Hid (VAt w6 L 23 (lkA l)) := LK4.grown K6 (by have := HB1.out; simp only [ne_eq, Option.some.injEq]; omega)
  have LW6 : LLv w6 _ vw vsw R := LW4.keptNew K6 (fun x hx => by have := HWB.out.1 x hx; omega) (fun i hi x hx => by have := HWB.out.2 i hi x hx; omega)
  have LX6 : LLv w6 w3.heap.size vx vsx R := LX4.kept K6 (by
    cases hv : vx.ownBlock with
    | none => exact .inl rfl
    | some x => have := (LX4.1.lt x hv).1; exact .inr (by simp; omega)) (fun i hi => by
    cases hv : (vsx.getD i undef).ownBlock with
    | none => exact .inl rfl
    | some x => have := (World.ownsRow.lt (LX4.2.2.1 i hi) x hv).1; exact .inr (by simp; omega))
  have G6 : w.grownBy w6 none := grown_trans_new G4 K6 (by intro x hx; obtain rfl := Option.some.inj hx; have := HB1.out; have := HLw.out; omega)
  have HXB : Hid ((∀ x, vx.ownBlock = some x → x < w6.heap.size) ∧ ∀ i, i < R.length → ∀ x, (vsx.getD i undef).ownBlock = some x → x < w6.heap.size) := below_all LX6
  clear LK4 LW4 G4 own4 LX4 HXB4 K6
  have HCPA : Hid (∀ W : World, w6.grownBy W none → Calls Try.prog 13 #[.slice a b.length ca] W fun e w' => ∃ v, e = .returned v ∧ Owns w' W.heap.size v b ∧ W.grownBy w' none) := fun W K => copy_any a ca _ W (H.out.keptNone (grown_trans G6 K)) hc0 (by omega)
  go_upto_region 6 with fail
  refine wp_region_held_drew (S := fun W => VAt W L 23 (lkA l) ∧ w6.grownBy W none) (by kernel_rfl) (⟨LK6.out.kept (grown_drewN w6 1 none), grown_drewN w6 1 none⟩) (fun hHeld => ?_)
  refine wpAnyH_take (i := 0) (v := .agg (lkA l)) rfl (by kernel_rfl) (by kernel_rfl) (by kernel_rfl) (fun _ _ _ h => h) (yieldsIf_load_row (by rfl) _ _ rfl L rfl 23 (lkA l) _ (fun W hW => hW.1) Try.underlying23 rfl HLS.out) hHeld ?_
  try simp only [Act.put, List.getElem_toArray, List.getElem_cons_zero, List.setIfInBounds_toArray, List.set_cons_zero, List.set_cons_succ]
  refine wpAnyH_take (i := 1) (v := .slice a b.length ca) rfl (by kernel_rfl) (by kernel_rfl) (by kernel_rfl) (fun _ _ _ h => h) (Or.inl ⟨by rfl, fun W hW => ?_⟩) hHeld ?_
  · clear hW
    go_simp
  try simp only [Act.put, List.getElem_toArray, List.getElem_cons_zero, List.getElem_cons_succ, List.setIfInBounds_toArray, List.set_cons_zero, List.set_cons_succ]
  refine wpAnyH_take (i := 3) (v := .int .i64 most) rfl (by kernel_rfl) (by kernel_rfl) (by kernel_rfl) (fun _ _ _ h => h) (Or.inl ⟨by rfl, fun W hW => ?_⟩) hHeld ?_
  · clear hW
    go_simp
  try simp only [Act.put, List.getElem_toArray, List.getElem_cons_zero, List.getElem_cons_succ, List.setIfInBounds_toArray, List.set_cons_zero, List.set_cons_succ]
  refine wpAnyH_take (i := 4) (v := .int .u32 (f : Int)) rfl (by kernel_rfl) (by kernel_rfl) (by kernel_rfl) (fun _ _ _ h => h) (Or.inl ⟨by rfl, fun W hW => ?_⟩) hHeld ?_
  · clear hW
    go_simp
  try simp only [Act.put, List.getElem_toArray, List.getElem_cons_zero, List.getElem_cons_succ, List.setIfInBounds_toArray, List.set_cons_zero, List.set_cons_succ]
  refine wpAnyH_ready (rs := [2]) (by kernel_rfl) (by simp) (AllReadyH.cons rfl (fun K hK => ?_) AllReadyH.nil)
  go_simp
  refine (HCPA.out _ hHeld.2).mono ?_
  rintro e v1 ⟨y, rfl, O3, K1⟩
  obtain ⟨ao3, ca3, rfl, C3, z3, r3⟩ := O3.items
  clear O3
  go_wp2_with fail
  refine hK.out _ _ (⟨hHeld.1.kept K1, grown_trans hHeld.2 K1⟩) (fun hHeld => ?_)
  clear hK K
  try simp only [Act.put, List.getElem_toArray, List.getElem_cons_zero, List.getElem_cons_succ, List.setIfInBounds_toArray, List.set_cons_zero, List.set_cons_succ]
  refine wpAnyH_ready (rs := [5]) (by kernel_rfl) (by simp) (AllReadyH.cons rfl (fun K hK => ?_) AllReadyH.nil)
  go_simp
  refine (HSPL.out _ ao3 ca3 C3 z3 r3).mono ?_
  rintro e v2 ⟨vy, rfl, LY, K2⟩
  go_wp2_with fail
  refine hK.out _ _ (⟨hHeld.1.kept K2, grown_trans hHeld.2 K2⟩) (fun hHeld => ?_)
  clear hK K
  try simp only [Act.put, List.getElem_toArray, List.getElem_cons_zero, List.getElem_cons_succ, List.setIfInBounds_toArray, List.set_cons_zero, List.set_cons_succ]
  refine wpAnyH_take (i := 6) (v := .tuple #[vy, .int .i64 E]) rfl (by kernel_rfl) (by kernel_rfl) (by kernel_rfl) (fun _ _ _ h => h) (Or.inl ⟨by rfl, fun W hW => ?_⟩) hHeld ?_
  · clear hW
    go_simp
  try simp only [Act.put, List.getElem_toArray, List.getElem_cons_zero, List.getElem_cons_succ, List.setIfInBounds_toArray, List.set_cons_zero, List.set_cons_succ]
  refine wpAnyH_take (i := 7) (v := vy) rfl (by kernel_rfl) (by kernel_rfl) (by kernel_rfl) (fun _ _ _ h => h) (Or.inl ⟨by rfl, fun W hW => ?_⟩) hHeld ?_
  · clear hW
    go_simp
  try simp only [Act.put, List.getElem_toArray, List.getElem_cons_zero, List.getElem_cons_succ, List.setIfInBounds_toArray, List.set_cons_zero, List.set_cons_succ]
  refine wpAnyH_take (i := 8) (v := .int .i64 E) rfl (by kernel_rfl) (by kernel_rfl) (by kernel_rfl) (fun _ _ _ h => h) (Or.inl ⟨by rfl, fun W hW => ?_⟩) hHeld ?_
  · clear hW
    go_simp
  try simp only [Act.put, List.getElem_toArray, List.getElem_cons_zero, List.getElem_cons_succ, List.setIfInBounds_toArray, List.set_cons_zero, List.set_cons_succ]
  refine wpAnyH_take (i := 9) (v := vy) rfl (by kernel_rfl) (by kernel_rfl) (by kernel_rfl) (fun _ _ _ h => h) (Or.inl ⟨by rfl, fun W hW => ?_⟩) hHeld ?_
  · clear hW
    go_simp
  try simp only [Act.put, List.getElem_toArray, List.getElem_cons_zero, List.getElem_cons_succ, List.setIfInBounds_toArray, List.set_cons_zero, List.set_cons_succ]
  refine wpAnyH_take (i := 10) (v := .int .i64 E) rfl (by kernel_rfl) (by kernel_rfl) (by kernel_rfl) (fun _ _ _ h => h) (Or.inl ⟨by rfl, fun W hW => ?_⟩) hHeld ?_
  · clear hW
    go_simp
  try simp only [Act.put, List.getElem_toArray, List.getElem_cons_zero, List.getElem_cons_succ, List.setIfInBounds_toArray, List.set_cons_zero, List.set_cons_succ]
  refine wpAnyH_done (by kernel_rfl) ?_ _
  obtain ⟨vsy, LY⟩ := LY
  have LWv := LW6.keptNone hHeld.2
  have LXv := LX6.keptNone hHeld.2
  have Gv := grown_trans G6 hHeld.2
  have HVS : Hid (w6.heap.size ≤ v1.heap.size) := (grown_trans (grown_drewN w6 1 none) K1).size
  have hee : (E != E) = false := by simp
  clear C3 K1 K2 z3 r3 hHeld LW6 LX6 G6 HCPA HSPL LK6
  go_wp2_with fail
  refine (sameLL_any LXv LWv (by omega) HR2.out).mono ?_
  rintro e w7 ⟨rfl, K7⟩
  have HI7 : Hid (XF w7 w3.heap.size vx vsx R 0 ∧ LLv w7 w1.heap.size vw vsw R ∧ LLv w7 v1.heap.size vy vsy R ∧ w.grownBy w7 none) := ⟨(LXv.keptNone K7).xf, LWv.keptNone K7, LY.keptNone K7, grown_trans Gv K7⟩
  obtain ⟨ax, cx, psx, hvx, -, -, -, hpx⟩ := LXv.parts
  obtain ⟨aw, cw, psw, hvw, -, -, -, hpw⟩ := LWv.parts
  have hlx : psx.length = R.length := by rw [← hpx, List.length_map]
  have hlw : psw.length = R.length := by rw [← hpw, List.length_map]
  rw [hlx] at hvx
  rw [hlw] at hvw
  clear LXv LWv LY Gv K7 hpx hpw hlx hlw
  subst hvx
  subst hvw
  go_wp2
  go_loopw [16] (fun x wr => ∃ i : Nat, i ≤ R.length ∧ x = .int .i64 i ∧ Hid (XF wr w3.heap.size (.slice ax R.length cx) vsx R i ∧ LLv wr w1.heap.size (.slice aw R.length cw) vsw R ∧ LLv wr v1.heap.size vy vsy R ∧ w.grownBy wr none)) (fun x _ => R.length - (intOf x).toNat)
  case atStart => exact ⟨0, Nat.zero_le _, rfl, HI7⟩
  case round =>
    clear HI7
    obtain ⟨i, hi', rfl, HI⟩ := hrel
    by_cases hlt : i < R.length
    · obtain ⟨XI, WI, YI, GI⟩ := HI.out
      obtain ⟨gx, cpx, ao, cao, hvx, ci, hvi, -, Oi⟩ := XI.item (Nat.le_refl _) hlt
      simp only [Value.slice.injEq, true_and] at hvx
      obtain ⟨rfl, rfl⟩ := hvx
      have hpi : (R.getD i []).length ≤ 70000 := HR2.out _ (by rw [List.getD_eq_getElem?_getD, List.getElem?_eq_getElem hlt]; exact List.getElem_mem hlt)
      have CS := spoil_own wr Oi (by omega)
      have HCS : Hid (Calls Try.prog 15 #[.slice ao (R.getD i []).length cao] wr fun e w' => e = .returned (.tuple #[]) ∧ wr.grownBy w' (Value.slice ao (R.getD i []).length cao).ownBlock) := CS
      generalize hPN : (R.getD i []).length = PN at *
      have hli : (i : Int) < (R.length : Int) := by omega
      have hi0 : (0 : Int) ≤ (i : Int) := by omega
      clear CS
      go_wp2_with fail
      refine HCS.out.mono ?_
      rintro e w8 ⟨rfl, K8⟩
      rw [← hvi] at K8
      have HI8 : Hid (XF w8 w3.heap.size (.slice (some ⟨gx, 0, none⟩) R.length cx) vsx R (i + 1) ∧ LLv w8 w1.heap.size (.slice aw R.length cw) vsw R ∧ LLv w8 v1.heap.size vy vsy R ∧ w.grownBy w8 none) := by
        refine ⟨XI.spoil hlt K8 (by decide), ?_, ?_, ?_⟩
        · cases hz : (vsx.getD i undef).ownBlock with
          | none => rw [hz] at K8; exact WI.keptNone K8
          | some z =>
            rw [hz] at K8
            have h1 := (World.ownsRow.lt (XI.2.2.1 i (Nat.le_refl _) hlt) z hz).1
            have h2 := HB2.out
            exact WI.keptNew K8 (fun x hx => by have := HWB.out.1 x hx; omega) (fun j hj x hx => by have := HWB.out.2 j hj x hx; omega)
        · cases hz : (vsx.getD i undef).ownBlock with
          | none => rw [hz] at K8; exact YI.keptNone K8
          | some z =>
            rw [hz] at K8
            have h1 := HXB.out.2 i hlt z hz
            have h2 := HVS.out
            refine YI.kept K8 ?_ (fun j hj => ?_)
            · cases hv : vy.ownBlock with
              | none => exact .inl rfl
              | some x => have := (YI.1.lt x hv).1; exact .inr (by simp; omega)
            · cases hv : (vsy.getD j undef).ownBlock with
              | none => exact .inl rfl
              | some x => have := (World.ownsRow.lt (YI.2.2.1 j hj) x hv).1; exact .inr (by simp; omega)
        · exact grown_trans_new GI K8 (fun z hz => by have := (World.ownsRow.lt (XI.2.2.1 i (Nat.le_refl _) hlt) z hz).1; have := HB2.out; have := HB1.out; have := HLw.out; omega)
      clear XI WI YI GI HCS ci Oi K8 HI
      by_cases hnx : i + 1 < R.length
      · obtain ⟨gx', cpx, aox, cax, hvx, cx1, -, CX1, -⟩ := HI8.out.1.item (Nat.le_refl _) hnx
        obtain ⟨gw, cpw, aow, caw, hvw, cw1, -, CW1, -⟩ := HI8.out.2.1.item hnx
        simp only [Value.slice.injEq, Option.some.injEq, Addr.mk.injEq, and_true, true_and] at hvx hvw
        obtain ⟨rfl, rfl⟩ := hvx
        obtain ⟨rfl, rfl⟩ := hvw
        have hpx : (R.getD (i + 1) []).length ≤ 70000 := HR2.out _ (by rw [List.getD_eq_getElem?_getD, List.getElem?_eq_getElem hnx]; exact List.getElem_mem hnx)
        generalize R.getD (i + 1) [] = px at *
        have HSB : Hid (∀ W : World, w8.grownBy W none → Calls Try.prog 16 #[.slice aox px.length cax, .slice aow px.length caw] W fun e w' => e = .returned (.bool true) ∧ W.grownBy w' none) := fun W K => by
          refine (same_any aox aow cax caw px W (CX1.keptNone K) (CW1.keptNone K) (by omega)).mono ?_
          rintro e w' ⟨rfl, n, rfl⟩
          exact ⟨rfl, grown_drewN W n none⟩
        generalize px.length = PX at *
        have hw1 : IntKind.i64.wrap ((i : Int) + 1) = (i : Int) + 1 := by rw [IntKind.wrap_i64]; omega
        have hl2 : (i : Int) + 1 < (R.length : Int) := by omega
        have hl3 : (0 : Int) ≤ (i : Int) + 1 := by omega
        clear CX1 CW1
        go_upto_region 13 with fail
        refine wp_region_held_drew (S := fun W => W.cell? ⟨gx, i + 1, none⟩ = some (.slice aox PX cax) ∧ W.cell? ⟨gw, i + 1, none⟩ = some (.slice aow PX caw) ∧ w8.grownBy W none) (by kernel_rfl) (⟨(grown_drewN w8 1 none).cell cx1 (by simp), (grown_drewN w8 1 none).cell cw1 (by simp), grown_drewN w8 1 none⟩) (fun hHeld => ?_)
        refine wpAnyH_take (i := 0) (v := .int .i64 (i : Int)) rfl (by kernel_rfl) (by kernel_rfl) (by kernel_rfl) (fun _ _ _ h => h) (Or.inl ⟨by rfl, fun W hW => ?_⟩) hHeld ?_
        · clear hW
          go_simp
        try simp only [Act.put, List.getElem_toArray, List.getElem_cons_zero, List.setIfInBounds_toArray, List.set_cons_zero, List.set_cons_succ]
        refine wpAnyH_take (i := 1) (v := .int .i64 ((i : Int) + 1)) rfl (by kernel_rfl) (by kernel_rfl) (by kernel_rfl) (fun _ _ _ h => h) (Or.inl ⟨by rfl, fun W hW => ?_⟩) hHeld ?_
        · clear hW
          go_simp
        try simp only [Act.put, List.getElem_toArray, List.getElem_cons_zero, List.getElem_cons_succ, List.setIfInBounds_toArray, List.set_cons_zero, List.set_cons_succ]
        refine wpAnyH_take (i := 2) (v := .slice (some ⟨gx, 0, none⟩) R.length cx) rfl (by kernel_rfl) (by kernel_rfl) (by kernel_rfl) (fun _ _ _ h => h) (Or.inl ⟨by rfl, fun W hW => ?_⟩) hHeld ?_
        · clear hW
          go_simp
        try simp only [Act.put, List.getElem_toArray, List.getElem_cons_zero, List.getElem_cons_succ, List.setIfInBounds_toArray, List.set_cons_zero, List.set_cons_succ]
        refine wpAnyH_take (i := 3) (v := .int .i64 (R.length : Int)) rfl (by kernel_rfl) (by kernel_rfl) (by kernel_rfl) (fun _ _ _ h => h) (Or.inl ⟨by rfl, fun W hW => ?_⟩) hHeld ?_
        · clear hW
          go_simp
        try simp only [Act.put, List.getElem_toArray, List.getElem_cons_zero, List.getElem_cons_succ, List.setIfInBounds_toArray, List.set_cons_zero, List.set_cons_succ]
        refine wpAnyH_take (i := 4) (v := .bool true) rfl (by kernel_rfl) (by kernel_rfl) (by kernel_rfl) (fun _ _ _ h => h) (Or.inl ⟨by rfl, fun W hW => ?_⟩) hHeld ?_
        · clear hW
          go_simp
        try simp only [Act.put, List.getElem_toArray, List.getElem_cons_zero, List.getElem_cons_succ, List.setIfInBounds_toArray, List.set_cons_zero, List.set_cons_succ]
        refine wpAnyH_take (i := 5) (v := .bool true) rfl (by kernel_rfl) (by kernel_rfl) (by kernel_rfl) (fun _ _ _ h => h) (Or.inl ⟨by rfl, fun W hW => ?_⟩) hHeld ?_
        · clear hW
          go_simp
        try simp only [Act.put, List.getElem_toArray, List.getElem_cons_zero, List.getElem_cons_succ, List.setIfInBounds_toArray, List.set_cons_zero, List.set_cons_succ]
        refine wpAnyH_take (i := 6) (v := .slice (some ⟨gx, 0, none⟩) R.length cx) rfl (by kernel_rfl) (by kernel_rfl) (by kernel_rfl) (fun _ _ _ h => h) (Or.inl ⟨by rfl, fun W hW => ?_⟩) hHeld ?_
        · clear hW
          go_simp
        try simp only [Act.put, List.getElem_toArray, List.getElem_cons_zero, List.getElem_cons_succ, List.setIfInBounds_toArray, List.set_cons_zero, List.set_cons_succ]
        refine wpAnyH_take (i := 7) (v := .int .i64 (i : Int)) rfl (by kernel_rfl) (by kernel_rfl) (by kernel_rfl) (fun _ _ _ h => h) (Or.inl ⟨by rfl, fun W hW => ?_⟩) hHeld ?_
        · clear hW
          go_simp
        try simp only [Act.put, List.getElem_toArray, List.getElem_cons_zero, List.getElem_cons_succ, List.setIfInBounds_toArray, List.set_cons_zero, List.set_cons_succ]
        refine wpAnyH_take (i := 8) (v := .int .i64 ((i : Int) + 1)) rfl (by kernel_rfl) (by kernel_rfl) (by kernel_rfl) (fun _ _ _ h => h) (Or.inl ⟨by rfl, fun W hW => ?_⟩) hHeld ?_
        · clear hW
          go_simp
        try simp only [Act.put, List.getElem_toArray, List.getElem_cons_zero, List.getElem_cons_succ, List.setIfInBounds_toArray, List.set_cons_zero, List.set_cons_succ]
        refine wpAnyH_take (i := 9) (v := .pointer (some ⟨gx, i + 1, none⟩)) rfl (by kernel_rfl) (by kernel_rfl) (by kernel_rfl) (fun _ _ _ h => h) (Or.inl ⟨by rfl, fun W hW => ?_⟩) hHeld ?_
        · clear hW
          go_simp
        try simp only [Act.put, List.getElem_toArray, List.getElem_cons_zero, List.getElem_cons_succ, List.setIfInBounds_toArray, List.set_cons_zero, List.set_cons_succ]
        refine wpAnyH_take (i := 10) (v := .slice aox PX cax) rfl (by kernel_rfl) (by kernel_rfl) (by kernel_rfl) (fun _ _ _ h => h) (Or.inl ⟨by rfl, fun W hW => ?_⟩) hHeld ?_
        · have c := hW.1
          clear hW
          go_simp
        try simp only [Act.put, List.getElem_toArray, List.getElem_cons_zero, List.getElem_cons_succ, List.setIfInBounds_toArray, List.set_cons_zero, List.set_cons_succ]
        refine wpAnyH_take (i := 11) (v := .slice (some ⟨gw, 0, none⟩) R.length cw) rfl (by kernel_rfl) (by kernel_rfl) (by kernel_rfl) (fun _ _ _ h => h) (Or.inl ⟨by rfl, fun W hW => ?_⟩) hHeld ?_
        · clear hW
          go_simp
        try simp only [Act.put, List.getElem_toArray, List.getElem_cons_zero, List.getElem_cons_succ, List.setIfInBounds_toArray, List.set_cons_zero, List.set_cons_succ]
        refine wpAnyH_take (i := 12) (v := .int .i64 (i : Int)) rfl (by kernel_rfl) (by kernel_rfl) (by kernel_rfl) (fun _ _ _ h => h) (Or.inl ⟨by rfl, fun W hW => ?_⟩) hHeld ?_
        · clear hW
          go_simp
        try simp only [Act.put, List.getElem_toArray, List.getElem_cons_zero, List.getElem_cons_succ, List.setIfInBounds_toArray, List.set_cons_zero, List.set_cons_succ]
        refine wpAnyH_take (i := 13) (v := .int .i64 ((i : Int) + 1)) rfl (by kernel_rfl) (by kernel_rfl) (by kernel_rfl) (fun _ _ _ h => h) (Or.inl ⟨by rfl, fun W hW => ?_⟩) hHeld ?_
        · clear hW
          go_simp
        try simp only [Act.put, List.getElem_toArray, List.getElem_cons_zero, List.getElem_cons_succ, List.setIfInBounds_toArray, List.set_cons_zero, List.set_cons_succ]
        refine wpAnyH_take (i := 14) (v := .pointer (some ⟨gw, i + 1, none⟩)) rfl (by kernel_rfl) (by kernel_rfl) (by kernel_rfl) (fun _ _ _ h => h) (Or.inl ⟨by rfl, fun W hW => ?_⟩) hHeld ?_
        · clear hW
          go_simp
        try simp only [Act.put, List.getElem_toArray, List.getElem_cons_zero, List.getElem_cons_succ, List.setIfInBounds_toArray, List.set_cons_zero, List.set_cons_succ]
        refine wpAnyH_take (i := 15) (v := .slice aow PX caw) rfl (by kernel_rfl) (by kernel_rfl) (by kernel_rfl) (fun _ _ _ h => h) (Or.inl ⟨by rfl, fun W hW => ?_⟩) hHeld ?_
        · have c := hW.2.1
          clear hW
          go_simp
        try simp only [Act.put, List.getElem_toArray, List.getElem_cons_zero, List.getElem_cons_succ, List.setIfInBounds_toArray, List.set_cons_zero, List.set_cons_succ]
        refine wpAnyH_ready (rs := [16]) (by kernel_rfl) (by simp) (AllReadyH.cons rfl (fun K hK => ?_) AllReadyH.nil)
        go_simp
        refine (HSB.out _ hHeld.2.2).mono ?_
        rintro e v31 ⟨rfl, K31⟩
        go_wp2_with fail
        refine hK.out _ _ (⟨K31.cell hHeld.1 (by simp), K31.cell hHeld.2.1 (by simp), grown_trans hHeld.2.2 K31⟩) (fun hHeld => ?_)
        clear hK K
        try simp only [Act.put, List.getElem_toArray, List.getElem_cons_zero, List.getElem_cons_succ, List.setIfInBounds_toArray, List.set_cons_zero, List.set_cons_succ]
        refine wpAnyH_take (i := 17) (v := .bool false) rfl (by kernel_rfl) (by kernel_rfl) (by kernel_rfl) (fun _ _ _ h => h) (Or.inl ⟨by rfl, fun W hW => ?_⟩) hHeld ?_
        · clear hW
          go_simp
        try simp only [Act.put, List.getElem_toArray, List.getElem_cons_zero, List.getElem_cons_succ, List.setIfInBounds_toArray, List.set_cons_zero, List.set_cons_succ]
        refine wpAnyH_take (i := 18) (v := .bool false) rfl (by kernel_rfl) (by kernel_rfl) (by kernel_rfl) (fun _ _ _ h => h) (Or.inl ⟨by rfl, fun W hW => ?_⟩) hHeld ?_
        · clear hW
          go_simp
        try simp only [Act.put, List.getElem_toArray, List.getElem_cons_zero, List.getElem_cons_succ, List.setIfInBounds_toArray, List.set_cons_zero, List.set_cons_succ]
        refine wpAnyH_done (by kernel_rfl) ?_ _
        have K9 := hHeld.2.2
        have HI9 : Hid _ := (⟨HI8.out.1.keptNone K9, HI8.out.2.1.keptNone K9, HI8.out.2.2.1.keptNone K9, grown_trans HI8.out.2.2.2 K9⟩ : XF _ w3.heap.size (.slice (some ⟨gx, 0, none⟩) R.length cx) vsx R (i + 1) ∧ LLv _ w1.heap.size (.slice (some ⟨gw, 0, none⟩) R.length cw) vsw R ∧ LLv _ v1.heap.size vy vsy R ∧ w.grownBy _ none)
        clear hHeld K9 HI8
        go_wp2
        go_roundw
        case rel => exact ⟨i + 1, by omega, by go_num, HI9.out⟩
        case measure => simp [intOf]; omega
      · have hl2 : decide ((i : Int) + 1 < (R.length : Int)) = false := decide_eq_false (by omega)
        have hw1 : IntKind.i64.wrap ((i : Int) + 1) = (i : Int) + 1 := by rw [IntKind.wrap_i64]; omega
        go_upto_region 13 with fail
        go_quiet (fail)
        have HI9 : Hid (∀ m, XF (w8.drewN m) w3.heap.size (.slice (some ⟨gx, 0, none⟩) R.length cx) vsx R (i + 1) ∧ LLv (w8.drewN m) w1.heap.size (.slice aw R.length cw) vsw R ∧ LLv (w8.drewN m) v1.heap.size vy vsy R ∧ w.grownBy (w8.drewN m) none) := fun m => ⟨HI8.out.1.keptNone (grown_drewN w8 m none), HI8.out.2.1.keptNone (grown_drewN w8 m none), HI8.out.2.2.1.keptNone (grown_drewN w8 m none), grown_trans HI8.out.2.2.2 (grown_drewN w8 m none)⟩
        clear HI8
        go_wp2
        go_roundw
        case rel => exact ⟨i + 1, by omega, by go_num, HI9.out _⟩
        case measure => simp [intOf]; omega
    · obtain rfl : i = R.length := by omega
      obtain ⟨-, WI, YI, GI⟩ := HI.out
      have CSL := sameLL_any YI WI (by omega) HR2.out
      clear HI
      go_wp2_with fail
      refine CSL.mono ?_
      rintro e w9 ⟨rfl, K9⟩
      have G9 := grown_trans GI K9
      clear CSL WI YI GI K9
      go_wp2_with fail
      refine (awake9_any _).mono ?_
      rintro e wz ⟨rfl, KZ⟩
      go_wp2
      go_ret
      exact ⟨rfl, grown_trans G9 KZ⟩

set_option maxRecDepth 100000 in
theorem lifted (os : Os) (started : os.Started) (H : Type) (enc : TypeId × Value → H) :
    ReturnsInHanded {} Try.checked os 3 .any (Rows.bundleSplitsSpec.pre6 enc Try.prog Try.f3 Rows.bundleSplitsRow.domain false) (Rows.bundleSplitsSpec.post enc Try.prog Try.f3 false true false false) := by
  refine returnsInHanded_of_change_sized (C := Try.checked) own started (by kernel_rfl) Try.func3
    (ChangeSpec.witness6 (enc := enc) (C := Try.checked) false ⟨#[], #[.agg #[.bool false, .bool false, .int .i64 0], .slice none 0 0, .int .i64 0, .int .u32 0], []⟩ 8 (by kernel_rfl) (by kernel_rfl) (by kernel_rfl) (by kernel_rfl)) ?_
  intro W base args ds gs before hval0 hW hcnd hsz0 _
  have hsz : (DataW.weightsEach Try.prog (Try.f3.params.toList ++ Rows.bundleSplitsSpec.plain.varTypes Try.prog) (ds ++ gs)).all (· ≤ reachBytes) = true := hsz0
  have hval : ∀ (j : Nat) t v, Try.f3.params[j]? = some t → args[j]? = some v → Value.okWide Try.prog W .any base t v := hval0
  have hW' := hW
  obtain ⟨p, q, hA0, hV, rfl, hfz, hnd⟩ := hW
  have hA : DataW.TrodAll enc Try.prog W 0 (fun _ => true) true Try.f3.params.toList args.toList ds p := hA0
  rw [Try.params3] at hA hval hsz
  obtain ⟨v0, vs0, d0, ds0, p0, q0, hargs, rfl, rfl, h0, r0⟩ := trodAll_cons hA
  obtain ⟨v1, vs1, d1, ds1, p1, q1, rfl, rfl, rfl, h1, r1⟩ := trodAll_cons r0
  obtain ⟨v2, vs2, d2, ds2, p2, q2, rfl, rfl, rfl, h2, r2⟩ := trodAll_cons r1
  obtain ⟨v3, vs3, d3, ds3, p3, q3, rfl, rfl, rfl, h3, r3⟩ := trodAll_cons r2
  obtain ⟨rfl, rfl, rfl⟩ := trodAll_nil r3
  obtain rfl : args = #[v0, v1, v2, v3] := by cases args; simp_all
  obtain ⟨rfl, rfl⟩ := trodVars_none hV
  have k0 := h0
  have lt0 : ∀ x ∈ p0, x.block < W.heap.size := by obtain ⟨m, hm⟩ := k0; exact DataW.trod_lt m _ _ _ hm
  obtain ⟨x0, rfl⟩ := open_link h0
  obtain ⟨a1, len1, cap1, rfl⟩ := okWide_slice Try.underlying24 (hval 1 24 v1 rfl rfl)
  have k1 := h1
  have lt1 : ∀ x ∈ p1, x.block < W.heap.size := by obtain ⟨m, hm⟩ := k1; exact DataW.trod_lt m _ _ _ hm
  have hcp1 := open_cap Try.underlying24 Try.underlying5 (by kernel_rfl) h1
  obtain ⟨xs1, rfl, hcells1, hnil1, hdat1⟩ := open_bytes Try.underlying24 Try.underlying5 (by kernel_rfl) h1
  obtain ⟨x2, rfl, rfl, rfl, w2⟩ := open_int Try.underlying3 (hval 2 3 v2 rfl rfl) h2
  obtain ⟨y3, rfl, rfl, rfl, w3⟩ := open_int Try.underlying25 (hval 3 25 v3 rfl rfl) h3
  have bd3 := bounds_u32 w3
  obtain ⟨x3, rfl⟩ := Int.eq_ofNat_of_zero_le bd3.1
  have hv3 : x3 ≤ 4294967295 := by omega
  have hlen1 : xs1.length * 1 ≤ 140737488351232 := by
    rcases hdat1 with ⟨_, rfl⟩ | ⟨elems, spare, rfl, hle⟩
    · simp
    · have := sized_slice hsz (j := 1) (t := 24) (e := 5) rfl rfl Try.underlying24
      rw [bytes5] at this
      unfold reachBytes at this
      omega
  clear hA0 hval0
  refine (walk x0 a1 cap1 xs1 x2 x3 W hcells1 hnil1 (by omega) hcp1 hv3).mono fun e W' ⟨he, hg⟩ => ?_
  subst he
  have bel : Below W.heap.size W W' := (Below.refl _ _).grown hg (Nat.le_refl _) (by simp)
  exact ⟨_, rfl, _, _, _, [], _, [], hW', trodAll_mk1 (shut_bool Try.underlying4 _), (trodAll_cons_mk (Below.trod laidOut (by kernel_rfl) (of_decide_eq_true (by kernel_rfl)) k0 bel lt0) (trodAll_cons_mk (Below.trod laidOut (by kernel_rfl) (of_decide_eq_true (by kernel_rfl)) k1 bel lt1) (trodAll_cons_mk (shut_int Try.underlying3 w2) (trodAll_cons_mk (shut_int Try.underlying25 w3) trodAll_mk0)))), rfl, bel.frame _, fun h => by cases h⟩

theorem over : Rows.BundleSplitsSaid :=
  OpenClaim.holds_of_wide 3 Try.f3 rfl rfl rfl rfl rfl rfl rfl ⟨rfl, rfl, rfl, rfl, rfl⟩ rfl rfl rfl rfl rfl (by kernel_rfl) Try.func3 (by kernel_rfl)
    (of_decide_eq_true (by kernel_rfl)) (by unfold Func.isWrapper; first | (rw [if_pos (by decide +kernel)]; kernel_rfl) | (rw [if_neg (by decide +kernel)]; exact ⟨rfl, rfl⟩))
    (fun os started H enc _ => lifted os started H enc)

end bundleSplits

theorem bundleSplits_holds : Rows.BundleSplitsSaid := bundleSplits.over
#print axioms bundleSplits_holds

end Go.Proofs.Ytgfiadljjlajaaa
