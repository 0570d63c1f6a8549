/-
  For every link and every spec (its data's capacity at most 2^47 - 4096 bytes, as the form itself says of each argument) riddlelaw8.ForgeMakes returns true and leaves what was there as it was: no condition of ours.
-/
import Derived.Test.YtfjjmeanmlimoaaOpenS
import Derived.Test.YtfjjmeanmlimoaaForgeL
import Derived.Deep.DeepCutAuto
namespace Go.Proofs.Ytfjjmeanmlimoaa
open Go.ChangeShapes Go.WideShapes Go.ChangeAt Go.RowKit
open Go.ChangeMaps (open_string shut_string)
set_option maxRecDepth 100000
namespace forgeMakes

set_option maxRecDepth 100000 in
set_option maxHeartbeats 4000000 in
theorem walk (l : Lk) (s : Sp) (a : Option Addr) (ca : Nat) (w : World) (ok : s.ok) (ha : Cells w a s.data) (hc0 : a = none → ca = 0) (_hcp : s.data.length ≤ ca) (hn : s.data.length ≤ 140737488351232) :
    Calls Try.prog 3 #[.agg (lkA l), .agg (spA s a ca)] w fun e w' => e = .returned (.bool true) ∧ w.grownBy w' none := by
  obtain ⟨R, hR⟩ : ∃ R, exV [] (makeX l s) = R := ⟨_, rfl⟩
  obtain ⟨E, hE⟩ : ∃ E, exE (makeX l s) = E := ⟨_, rfl⟩
  have hRl : R.length ≤ 65535 := by rw [← hR]; exact made_len l s
  have HMK : Hid (∀ (g cap : Nat) (W : World), Cells W (some ⟨g, 0, none⟩) s.data → Calls Try.prog 10 #[.agg (lkA l), .agg (spA s (some ⟨g, 0, none⟩) cap)] W fun e w' => ∃ v, e = .returned (.tuple #[v, .int .i64 E]) ∧ Owns w' W.heap.size v R ∧ W.grownBy w' none) := fun g cap W h => by
    have k := make_any l s (some ⟨g, 0, none⟩) cap W ok h (by simp) (by omega)
    rw [hR, hE] at k
    exact k
  have L0 := VAt.alloc w 23 (lkA l)
  have K1 := World.grownBy_alloc (w.alloc (.cells (lkA l) 23)) (.cells (spA s a ca) 28) none
  have S1 := VAt.alloc (w.alloc (.cells (lkA l) 23)) 28 (spA s a ca)
  have G1 := grown_trans (World.grownBy_alloc w (.cells (lkA l) 23) none) K1
  rw [show (w.alloc (.cells (lkA l) 23)).heap.size = w.heap.size + 1 by simp] at S1
  have LK := L0.kept K1
  have SK := S1
  have HLS : Hid ((Try.prog.info? 23).map (·.size) = some (lkA l).size) := size23
  have HSS : Hid ((Try.prog.info? 28).map (·.size) = some (spA s a ca).size) := spA_size ok a ca
  have H : Hid (Cells w a s.data) := ha
  have HOK : Hid s.ok := ok
  have HRM : Hid (∀ (W : World), Cells W a s.data → Calls Try.prog 8 #[.agg (lkA l), .agg (spA s a ca)] W fun e w' => ∃ v, e = .returned (.tuple #[v, .int .i64 E]) ∧ Owns w' W.heap.size v R ∧ W.grownBy w' none) := fun W h => by
    have k := refmake_any l s a ca W ok h hc0
    rw [hR, hE] at k
    exact k
  clear hR hE L0 S1 K1 ha ok
  go_enter Try.func3, Try.ntmps3
  go_upto_region 1 with fail
  obtain ⟨B, hB⟩ : ∃ B, w.heap.size = B := ⟨_, rfl⟩
  obtain ⟨C, hC⟩ : ∃ C, w.heap.size + 1 = C := ⟨_, rfl⟩
  rw [hC] at SK
  rw [hB] at LK
  rw [hC, hB]
  have HBC : Hid (w.heap.size ≤ B ∧ w.heap.size ≤ C) := ⟨by omega, by omega⟩
  clear hB hC
  generalize (w.alloc (.cells (lkA l) 23)).alloc (.cells (spA s a ca) 28) = w1 at *
  go_wp2_with (first | (refine wpList_load_row rfl 23 (.tmp 2) rfl B rfl 23 (lkA l) (0, 0) _ LK Try.underlying23 rfl HLS.out ?_) | (refine wpList_load_row rfl 28 (.tmp 3) rfl C rfl 28 (spA s a ca) (0, 0) _ SK Try.underlying28 rfl HSS.out ?_))
  refine (HRM.out _ (H.out.keptNone G1)).mono ?_
  rintro e w2 ⟨want, rfl, O2, K2⟩
  obtain ⟨ao1, cap1, rfl, C1, _, _, B1, _⟩ := O2.shape
  have hb1 := G1.size
  have hBC := LK.lt
  have hCC := SK.lt
  have LK2 := LK.kept K2
  have SK2 := SK.kept K2
  have G2 := grown_trans G1 K2
  clear LK SK O2 HRM
  go_wp2_with (first | (refine wpList_load_row rfl 23 (.tmp 2) rfl B rfl 23 (lkA l) (0, 0) _ LK2 Try.underlying23 rfl HLS.out ?_) | (refine wpList_load_row rfl 28 (.tmp 3) rfl C rfl 28 (spA s a ca) (0, 0) _ SK2 Try.underlying28 rfl HSS.out ?_))
  refine (lend8_any s a ca _ HOK.out (H.out.keptNone G2) hc0 hn).mono ?_
  rintro e w3 ⟨g, cap, rfl, L3, K3⟩
  obtain ⟨g', cap', e', hcap, hcm, hg1, hg2, hown⟩ := L3
  obtain ⟨rfl, rfl⟩ : g = g' ∧ cap = cap' := by simpa using e'
  clear e'
  have HST : Hid ((Try.prog.info? 28).map (·.size) = some (spA s (some ⟨g, 0, none⟩) cap).size) := spA_size HOK.out _ _
  have hzs : zS.size = (spA s (some ⟨g, 0, none⟩) cap).size := by rw [zS_size, spA, List.size_toArray, spL_len HOK.out]
  have Z3 := VAt.alloc w3 28 zS
  have T4 := VAt.alloc w3 28 (spA s (some ⟨g, 0, none⟩) cap)
  have K4 := World.grownBy_alloc w3 (.cells (spA s (some ⟨g, 0, none⟩) cap) 28) none
  have K34 := grown_trans K3 K4
  have G4 := grown_trans G2 K34
  have LK4 := LK2.kept K34
  have SK4 := SK2.kept K34
  have D4 := C1.keptNone K34
  have own4 := hown.kept K4 (by simp [Value.ownBlock])
  have C4 := (cells_front own4).1
  clear LK2 SK2 C1 hown K3 K4
  go_upto_region 3 with (refine wpList_store_row rfl 28 (.tmp 7) (.tmp 19) rfl w3.heap.size (spA s (some ⟨g, 0, none⟩) cap) rfl rfl 28 _ Z3 HST.out hzs (spA_all _ _ _) ?_)
  rw [World.setRow_alloc_new]
  have hg4 : g < w3.heap.size := hg2
  generalize w3.alloc (.cells (spA s (some ⟨g, 0, none⟩) cap) 28) = w4 at *
  generalize w3.heap.size = D at *
  clear Z3 hzs
  go_wp2_with (first | (refine wpList_load_row rfl 23 (.tmp 2) rfl B rfl 23 (lkA l) (0, 0) _ LK4 Try.underlying23 rfl HLS.out ?_) | (refine wpList_load_row rfl 28 (.tmp 7) rfl D rfl 28 (spA s (some ⟨g, 0, none⟩) cap) (0, 0) _ T4 Try.underlying28 rfl HST.out ?_))
  refine (HMK.out g cap _ C4).mono ?_
  rintro e w5 ⟨x, rfl, O5, K5⟩
  have G5 := grown_trans G4 K5
  have D5 := D4.keptNone K5
  have own5 := own4.kept K5 (by simp [Value.ownBlock])
  have LK5 := LK4.kept K5
  have SK5 := SK4.kept K5
  have T5 := T4.kept K5
  have c1 := (show SAt w5 D s (some ⟨g, 0, none⟩) cap from ⟨T5, HOK.out⟩).four.2.2.2
  have c2 := (show SAt w5 C s a ca from ⟨SK5, HOK.out⟩).four.2.2.2
  have hDl := T4.lt
  clear D4 own4 LK4 SK4 T4 C4 T5
  go_wp2_with fail
  refine (kept_any g cap a ca s.data _ (owns_mono own5 (Nat.zero_le _)) (H.out.keptNone G5) hn).mono ?_
  rintro e w6 ⟨rfl, K6⟩
  have D6 := D5.keptUp w2.heap.size (fun ad had => (B1 ad had).2) K6 (by intro k hk; obtain rfl := Option.some.inj hk; exact hg1)
  have hdw := K34.size
  have O6 : Owns w6 w4.heap.size x R := O5.kept K6 (by
    right
    intro e
    have := (O5.lt g e).1
    have := own5.lt
    omega)
  have hgB : some g ≠ some B := by intro e; have := Option.some.inj e; have := K2.size; omega
  have hgC : some g ≠ some C := by intro e; have := Option.some.inj e; have := K2.size; omega
  have B0 : LS w6 B C l s a ca w6 := ⟨LK5.grown K6 hgB, SK5.grown K6 hgC, World.grownBy.refl _ _⟩
  have G6 : w.grownBy w6 none := grown_trans_new G5 K6 (by intro k hk; obtain rfl := Option.some.inj hk; have := K2.size; omega)
  clear own5 D5 O5 LK5 SK5 c1 c2 hgB hgC
  go_upto_region 6 with fail
  refine wp_region_held_drew (S := fun W => LS w6 B C l s a ca W) (by kernel_rfl) (ls_drew B0) (fun hHeld => ?_)
  refine wpAnyH_take (i := 0) (v := .agg (lkA l)) rfl (by kernel_rfl) (by kernel_rfl) (by kernel_rfl) (fun _ _ _ h => h) (yieldsIf_load_row (by rfl) _ _ rfl B rfl 23 (lkA l) _ (fun W hW => hW.1) Try.underlying23 rfl HLS.out) hHeld ?_
  try simp only [Act.put, List.getElem_toArray, List.getElem_cons_zero, List.setIfInBounds_toArray, List.set_cons_zero, List.set_cons_succ]
  refine wpAnyH_take (i := 1) (v := .agg (spA s a ca)) rfl (by kernel_rfl) (by kernel_rfl) (by kernel_rfl) (fun _ _ _ h => h) (yieldsIf_load_row (by rfl) _ _ rfl C rfl 28 (spA s a ca) _ (fun W hW => hW.2.1) Try.underlying28 rfl HSS.out) hHeld ?_
  try simp only [Act.put, List.getElem_toArray, List.getElem_cons_zero, List.getElem_cons_succ, List.setIfInBounds_toArray, List.set_cons_zero, List.set_cons_succ]
  refine wpAnyH_ready (rs := [2]) (by kernel_rfl) (by simp) (AllReadyH.cons rfl (fun K hK => ?_) AllReadyH.nil)
  go_simp
  refine (lend8_any s a ca _ HOK.out (H.out.keptNone (grown_trans G6 hHeld.2.2)) hc0 hn).mono ?_
  rintro e w7 ⟨g2, cap2, rfl, Lw7, Kw7⟩
  obtain ⟨g', cap', e', -, -, -, -, hownw7⟩ := Lw7
  obtain ⟨rfl, rfl⟩ : g2 = g' ∧ cap2 = cap' := by simpa using e'
  clear e'
  have Cw7 := (cells_front hownw7).1
  go_wp2_with fail
  refine hK.out _ _ (ls_call Kw7 hHeld) (fun hHeld => ?_)
  have hw67 : w6.heap.size ≤ w7.heap.size := hHeld.2.2.size
  clear hK K hownw7 Kw7
  try simp only [Act.put, List.getElem_toArray, List.getElem_cons_zero, List.getElem_cons_succ, List.setIfInBounds_toArray, List.set_cons_zero, List.set_cons_succ]
  refine wpAnyH_ready (rs := [3]) (by kernel_rfl) (by simp) (AllReadyH.cons rfl (fun K hK => ?_) AllReadyH.nil)
  go_simp
  refine (HMK.out g2 cap2 _ Cw7).mono ?_
  rintro e w8 ⟨y, rfl, Ow8, Kw8⟩
  go_wp2_with fail
  refine hK.out _ _ (ls_call Kw8 hHeld) (fun hHeld => ?_)
  clear hK K Cw7
  try simp only [Act.put, List.getElem_toArray, List.getElem_cons_zero, List.getElem_cons_succ, List.setIfInBounds_toArray, List.set_cons_zero, List.set_cons_succ]
  refine wpAnyH_take (i := 4) (v := .tuple #[y, .int .i64 E]) rfl (by kernel_rfl) (by kernel_rfl) (by kernel_rfl) (fun _ _ _ h => h) (Or.inl ⟨by rfl, fun W hW => ?_⟩) hHeld ?_
  · clear hW
    go_simp
  try simp only [Act.put, List.getElem_toArray, List.getElem_cons_zero, List.getElem_cons_succ, List.setIfInBounds_toArray, List.set_cons_zero, List.set_cons_succ]
  refine wpAnyH_take (i := 5) (v := y) rfl (by kernel_rfl) (by kernel_rfl) (by kernel_rfl) (fun _ _ _ h => h) (Or.inl ⟨by rfl, fun W hW => ?_⟩) hHeld ?_
  · clear hW
    go_simp
  try simp only [Act.put, List.getElem_toArray, List.getElem_cons_zero, List.getElem_cons_succ, List.setIfInBounds_toArray, List.set_cons_zero, List.set_cons_succ]
  refine wpAnyH_take (i := 6) (v := .int .i64 E) rfl (by kernel_rfl) (by kernel_rfl) (by kernel_rfl) (fun _ _ _ h => h) (Or.inl ⟨by rfl, fun W hW => ?_⟩) hHeld ?_
  · clear hW
    go_simp
  try simp only [Act.put, List.getElem_toArray, List.getElem_cons_zero, List.getElem_cons_succ, List.setIfInBounds_toArray, List.set_cons_zero, List.set_cons_succ]
  refine wpAnyH_take (i := 7) (v := y) rfl (by kernel_rfl) (by kernel_rfl) (by kernel_rfl) (fun _ _ _ h => h) (Or.inl ⟨by rfl, fun W hW => ?_⟩) hHeld ?_
  · clear hW
    go_simp
  try simp only [Act.put, List.getElem_toArray, List.getElem_cons_zero, List.getElem_cons_succ, List.setIfInBounds_toArray, List.set_cons_zero, List.set_cons_succ]
  refine wpAnyH_take (i := 8) (v := .int .i64 E) rfl (by kernel_rfl) (by kernel_rfl) (by kernel_rfl) (fun _ _ _ h => h) (Or.inl ⟨by rfl, fun W hW => ?_⟩) hHeld ?_
  · clear hW
    go_simp
  try simp only [Act.put, List.getElem_toArray, List.getElem_cons_zero, List.getElem_cons_succ, List.setIfInBounds_toArray, List.set_cons_zero, List.set_cons_succ]
  refine wpAnyH_done (by kernel_rfl) ?_ _
  have K8 := hHeld.2.2
  have G8 := grown_trans G6 K8
  have D8 := D6.keptNone K8
  have O8x := O6.kept K8 (by cases h : x.ownBlock <;> simp)
  obtain ⟨ao8, cap8, rfl, C8, _, _, B8, _⟩ := Ow8.shape
  obtain ⟨aox, capx, rfl, Cx, _⟩ := Owns.shape O8x
  have heq : (E != E) = false := by simp
  clear hHeld D6 B0
  go_wp2_with fail
  refine (same_any aox ao1 capx cap1 _ _ Cx D8 (by omega)).mono ?_
  rintro e w9 ⟨rfl, n9, rfl⟩
  clear Cx
  go_wp2_with fail
  refine (spoil_own (xs := R) (base := w4.heap.size) (w8.drewN n9) O8x (by omega)).mono ?_
  rintro e w10 ⟨rfl, K10⟩
  have K11 : w8.grownBy w10 _ := grown_trans (grown_drewN w8 n9 _) K10
  have hxb := O8x.lt
  have hx6 := O6.lt
  have D10 := D8.keptUp w2.heap.size (fun ad had => (B1 ad had).2) K11 (fun k hk => by have := (hxb k hk).1; omega)
  have C10 := C8.keptDown w7.heap.size (fun ad had => (B8 ad had).1) K11 (fun k hk => by have := (hx6 k hk).2; have := hw67; omega)
  have G10 : w.grownBy w10 none := grown_trans_new G8 K11 (fun k hk => by have := (hxb k hk).1; have := G4.size; omega)
  clear K10 K11 D8 C8 O8x
  go_wp2_with fail
  refine (same_any ao8 ao1 cap8 cap1 _ _ C10 D10 (by omega)).mono ?_
  rintro e w11 ⟨rfl, n11, rfl⟩
  have G11 := grown_trans G10 (grown_drewN w10 n11 none)
  clear C10 D10
  go_wp2_with fail
  refine (awake8_any _).mono ?_
  rintro e w12 ⟨rfl, K12⟩
  have G12 := grown_trans G11 K12
  clear K12 G11 G10 G8 G6
  go_wp2
  go_ret
  exact ⟨rfl, G12⟩

set_option maxRecDepth 100000 in
theorem lifted (os : Os) (started : os.Started) (H : Type) (enc : TypeId × Value → H) :
    ReturnsInHanded {} Try.checked os 3 .any (Rows.forgeMakesSpec.pre6 enc Try.prog Try.f3 Rows.forgeMakesRow.domain false) (Rows.forgeMakesSpec.post enc Try.prog Try.f3 false true false false) := by
  refine returnsInHanded_of_change_sized (C := Try.checked) own started (by kernel_rfl) Try.func3
    (ChangeSpec.witness6 (enc := enc) (C := Try.checked) false ⟨#[], #[.agg #[.bool false, .bool false, .int .i64 0], .agg #[.bool false, .bool false, .bool false, .bool false, .bool false, .int .u32 0, .int .u32 0, .int .i64 0, .int .u8 0, .int .u8 0, .int .u8 0, .int .u8 0, .int .u8 0, .int .u8 0, .int .u8 0, .int .u8 0, .int .u8 0, .int .u8 0, .int .u8 0, .int .u8 0, .int .u8 0, .int .u8 0, .int .u8 0, .int .u8 0, .int .u8 0, .int .u8 0, .int .u8 0, .int .u8 0, .int .u8 0, .int .u8 0, .int .u8 0, .int .u8 0, .int .u8 0, .int .u8 0, .int .u8 0, .int .u8 0, .int .u8 0, .int .u8 0, .int .u8 0, .int .u8 0, .bool false, .int .u32 0, .int .u32 0, .slice none 0 0]], []⟩ 8 (by kernel_rfl) (by kernel_rfl) (by kernel_rfl) (by kernel_rfl)) ?_
  intro W base args ds gs before hval0 hW hcnd hsz0 _
  have hsz : (DataW.weightsEach Try.prog (Try.f3.params.toList ++ Rows.forgeMakesSpec.plain.varTypes Try.prog) (ds ++ gs)).all (· ≤ reachBytes) = true := hsz0
  have hval : ∀ (j : Nat) t v, Try.f3.params[j]? = some t → args[j]? = some v → Value.okWide Try.prog W .any base t v := hval0
  have hW' := hW
  obtain ⟨p, q, hA0, hV, rfl, hfz, hnd⟩ := hW
  have hA : DataW.TrodAll enc Try.prog W 0 (fun _ => true) true Try.f3.params.toList args.toList ds p := hA0
  rw [Try.params3] at hA hval hsz
  obtain ⟨v0, vs0, d0, ds0, p0, q0, hargs, rfl, rfl, h0, r0⟩ := trodAll_cons hA
  obtain ⟨v1, vs1, d1, ds1, p1, q1, rfl, rfl, rfl, h1, r1⟩ := trodAll_cons r0
  obtain ⟨rfl, rfl, rfl⟩ := trodAll_nil r1
  obtain rfl : args = #[v0, v1] := by cases args; simp_all
  obtain ⟨rfl, rfl⟩ := trodVars_none hV
  have k0 := h0
  have lt0 : ∀ x ∈ p0, x.block < W.heap.size := by obtain ⟨m, hm⟩ := k0; exact DataW.trod_lt m _ _ _ hm
  obtain ⟨x0, rfl⟩ := open_link h0
  have k1 := h1
  have lt1 : ∀ x ∈ p1, x.block < W.heap.size := by obtain ⟨m, hm⟩ := k1; exact DataW.trod_lt m _ _ _ hm
  obtain ⟨s1, a1, cap1, rfl, hok1, hcells1, hnil1, hcp1, parts1, e1, rfl, hpp1, hdt1⟩ := open_spec h1
  have hlen1 := sized_spec hsz (j := 1) rfl rfl hpp1 hdt1
  clear hA0 hval0
  refine (walk x0 s1 a1 cap1 W hok1 hcells1 hnil1 hcp1 hlen1).mono fun e W' ⟨he, hg⟩ => ?_
  subst he
  have bel : Below W.heap.size W W' := (Below.refl _ _).grown hg (Nat.le_refl _) (by simp)
  exact ⟨_, rfl, _, _, _, [], _, [], hW', trodAll_mk1 (shut_bool Try.underlying4 _), (trodAll_cons_mk (Below.trod laidOut (by kernel_rfl) (of_decide_eq_true (by kernel_rfl)) k0 bel lt0) (trodAll_cons_mk (Below.trod laidOut (by kernel_rfl) (of_decide_eq_true (by kernel_rfl)) k1 bel lt1) trodAll_mk0)), rfl, bel.frame _, fun h => by cases h⟩

theorem over : Rows.ForgeMakesSaid :=
  OpenClaim.holds_of_wide 3 Try.f3 rfl rfl rfl rfl rfl rfl rfl ⟨rfl, rfl, rfl, rfl, rfl⟩ rfl rfl rfl rfl rfl (by kernel_rfl) Try.func3 (by kernel_rfl)
    (of_decide_eq_true (by kernel_rfl)) (by unfold Func.isWrapper; first | (rw [if_pos (by decide +kernel)]; kernel_rfl) | (rw [if_neg (by decide +kernel)]; exact ⟨rfl, rfl⟩))
    (fun os started H enc _ => lifted os started H enc)

end forgeMakes

theorem forgeMakes_holds : Rows.ForgeMakesSaid := forgeMakes.over
#print axioms forgeMakes_holds

end Go.Proofs.Ytfjjmeanmlimoaa
