/-
  For every link and every list of bytes (its capacity at most 2^47 - 4096 bytes, as the form itself says of each argument) riddlelaw7.FrameLooks returns true and leaves what was there as it was: no condition of ours.
-/
import Derived.Test.YtjjccbegljkkfaaOpenL
import Derived.Test.YtjjccbegljkkfaaFrameK
import Derived.Deep.DeepCutAuto
namespace Go.Proofs.Ytjjccbegljkkfaa
open Go.ChangeShapes Go.WideShapes Go.ChangeAt Go.RowKit
open Go.ChangeMaps (open_string shut_string)
set_option maxRecDepth 100000
namespace frameLooks

set_option maxRecDepth 100000 in
set_option maxHeartbeats 4000000 in
theorem walk (l : Lk) (a : Option Addr) (ca : Nat) (b : List UInt8) (w : World) (ha : Cells w a b) (hc0 : a = none → ca = 0) (hn : b.length ≤ 140737488351232) :
    Calls Try.prog 3 #[.agg (lkA l), .slice a b.length ca] w fun e w' => e = .returned (.bool true) ∧ w.grownBy w' none := by
  have H : Hid (Cells w a b) := ha
  obtain ⟨v, hv⟩ : ∃ v, exV Vw.zero (lookX l b) = v := ⟨_, rfl⟩
  obtain ⟨E, hE⟩ : ∃ E, exE (lookX l b) = E := ⟨_, rfl⟩
  obtain ⟨X, hX⟩ : ∃ X, vwA v = X := ⟨_, rfl⟩
  have hX9 : X.size = 9 := by rw [← hX]; rfl
  have hX1 : X.all (·.oneCell') = true := by rw [← hX]; exact vwA_all v
  have HS : Hid ((Try.prog.info? 27).map (·.size) = some X.size) := by rw [hX9]; exact size27
  have HX : Hid (vwA v = X) := hX
  have HSX := HS
  have HK : Hid (∀ (a : Option Addr) (ca : Nat) (W : World), Cells W a b → Calls Try.prog 11 #[.agg #[.bool l.acfc, .bool l.pfc, .int .i64 l.mp], .slice a b.length ca] W fun e w' => e = .returned (.tuple #[.agg X, .int .i64 E]) ∧ W.grownBy w' none) := fun a ca W h => by
    have k := look_any l a ca b W h (by omega)
    rw [hv, hE, hX] at k
    exact k
  have HL : Hid (∀ W : World, Cells W a b → Calls Try.prog 9 #[.agg #[.bool l.acfc, .bool l.pfc, .int .i64 l.mp], .slice a b.length ca] W fun e w' => e = .returned (.tuple #[.agg X, .int .i64 E]) ∧ W.grownBy w' none) := fun W h => by
    have k := reflook_any l a ca b W h (by omega)
    rw [hv, hE, hX] at k
    exact k
  have HC1 : Hid (∀ W : World, Calls Try.prog 13 #[.agg #[.bool l.acfc, .bool l.pfc, .int .i64 l.mp]] W fun e w' => e = .returned (.int .i64 (checkF l)) ∧ W.grownBy w' none) := fun W => chk_any l W
  have HC2 : Hid (∀ W : World, Calls Try.prog 14 #[.agg #[.bool l.acfc, .bool l.pfc, .int .i64 l.mp]] W fun e w' => e = .returned (.int .i64 (checkF l)) ∧ W.grownBy w' none) := fun W => refchk_any l W
  have L0 := VAt.alloc w 23 (lkA l)
  have G0 : w.grownBy (w.alloc (.cells (lkA l) 23)) none := World.grownBy_alloc _ _ _
  have hB0 : w.heap.size < (w.alloc (.cells (lkA l) 23)).heap.size := L0.lt
  clear hv hE hX ha
  generalize checkF l = ck at *
  simp only [lkA] at L0 G0 hB0 ⊢
  go_enter Try.func3, Try.ntmps3
  go_upto_region 1 with fail
  obtain ⟨B, hB⟩ : ∃ B, w.heap.size = B := ⟨_, rfl⟩
  rw [hB] at L0 hB0 ⊢
  have HBw : Hid (w.heap.size ≤ B) := Nat.le_of_eq hB
  clear hB
  generalize w.alloc (.cells #[.bool l.acfc, .bool l.pfc, .int .i64 l.mp] 23) = w1 at *
  have x0 : w1.cell? ⟨B, 0, none⟩ = some (.bool l.acfc) := L0.cell 0
  have x1 : w1.cell? ⟨B, 1, none⟩ = some (.bool l.pfc) := L0.cell 1
  have x2 : w1.cell? ⟨B, 2, none⟩ = some (.int .i64 l.mp) := L0.cell 2
  go_wp2_with fail
  refine (HL.out _ (H.out.keptNone G0)).mono ?_
  rintro e w3 ⟨rfl, K3⟩
  have U := VAt.alloc w3 27 (vwA Vw.zero)
  have K4 : w1.grownBy ((w3.alloc (.cells (vwA Vw.zero) 27)).setRow w3.heap.size X) none := vgrown_setRow (grown_trans K3 (World.grownBy_alloc _ _ none)) _ _ (.inr K3.size)
  have hs4 : w3.heap.size < ((w3.alloc (.cells (vwA Vw.zero) 27)).setRow w3.heap.size X).heap.size := by rw [setRow_size]; simp
  have HVA : Hid (VAt ((w3.alloc (.cells (vwA Vw.zero) 27)).setRow w3.heap.size X) w3.heap.size 27 X ∧ w1.grownBy ((w3.alloc (.cells (vwA Vw.zero) 27)).setRow w3.heap.size X) none ∧ w3.heap.size < ((w3.alloc (.cells (vwA Vw.zero) 27)).setRow w3.heap.size X).heap.size ∧ B < w3.heap.size) := ⟨U.setRow X, K4, hs4, Nat.lt_of_lt_of_le hB0 K3.size⟩
  clear K4 K3 HL hs4 hB0
  go_upto_region 2 with (refine wpList_store_row rfl 27 (.tmp 5) (.tmp 14) rfl w3.heap.size X rfl rfl 27 _ U (HSX.out) hX9.symm hX1 ?_)
  rw [show w3.alloc (.cells #[.int .u32 0, .bool false, .bool false, .bool false, .int .u32 0, .int .i64 0, .int .i64 0, .int .i64 0, .int .i64 0] 27) = w3.alloc (.cells (vwA Vw.zero) 27) from rfl]
  clear U
  generalize (w3.alloc (.cells (vwA Vw.zero) 27)).setRow w3.heap.size X = w4 at *
  generalize w3.heap.size = V at *
  clear w3
  have G4 := grown_trans G0 HVA.out.2.1
  have L4 : Hid (VAt w4 B 23 #[.bool l.acfc, .bool l.pfc, .int .i64 l.mp]) := L0.kept HVA.out.2.1
  have V4 : Hid (VAt w4 V 27 X ∧ V < w4.heap.size ∧ B < V) := ⟨HVA.out.1, HVA.out.2.2.1, HVA.out.2.2.2⟩
  clear HVA L0 G0 x0 x1 x2
  clear w1
  go_wp2_with fail
  refine (lend_any a ca b _ (H.out.keptNone G4) hc0 hn).mono ?_
  rintro e w5 ⟨v5, rfl, L5, K5⟩
  obtain ⟨g, cap, rfl, hcap, hcm, hg1, hg2, hown⟩ := L5
  have C5 := (cells_front hown).1
  have G5 := grown_trans G4 K5
  have HO5 : Hid (w5.ownsRow w4.heap.size 5 1 (.slice (some ⟨g, 0, none⟩) (b.length + 3) cap) (b.length + 3) ((b ++ [201, 201, 201]).map bv)) := hown
  have HC5 : Hid (Cells w5 (some ⟨g, 0, none⟩) b ∧ w4.heap.size ≤ g) := ⟨C5, hg1⟩
  have LL5 := L4.out.kept K5
  have V5 : Hid (VAt w5 V 27 X ∧ V < g ∧ B < V) := ⟨V4.out.1.kept K5, Nat.lt_of_lt_of_le V4.out.2.1 hg1, V4.out.2.2⟩
  clear hown C5 G4 K5 L4 V4 hg1 hcap hcm
  have x0 : w5.cell? ⟨B, 0, none⟩ = some (.bool l.acfc) := LL5.cell 0
  have x1 : w5.cell? ⟨B, 1, none⟩ = some (.bool l.pfc) := LL5.cell 1
  have x2 : w5.cell? ⟨B, 2, none⟩ = some (.int .i64 l.mp) := LL5.cell 2
  have HL5 : Hid (VAt w5 B 23 #[.bool l.acfc, .bool l.pfc, .int .i64 l.mp]) := LL5
  clear LL5
  go_wp2_with fail
  refine (HK.out _ _ _ HC5.out.1).mono ?_
  rintro e w6 ⟨rfl, K6⟩
  have U := VAt.alloc w6 27 (vwA Vw.zero)
  have K7 : w5.grownBy ((w6.alloc (.cells (vwA Vw.zero) 27)).setRow w6.heap.size X) none := vgrown_setRow (grown_trans K6 (World.grownBy_alloc _ _ none)) _ _ (.inr K6.size)
  have HVA : Hid (VAt ((w6.alloc (.cells (vwA Vw.zero) 27)).setRow w6.heap.size X) w6.heap.size 27 X ∧ w5.grownBy ((w6.alloc (.cells (vwA Vw.zero) 27)).setRow w6.heap.size X) none ∧ g < w6.heap.size) := ⟨U.setRow X, K7, Nat.lt_of_lt_of_le hg2 K6.size⟩
  clear K7 K6 HK hg2
  go_upto_region 4 with (refine wpList_store_row rfl 27 (.tmp 8) (.tmp 22) rfl w6.heap.size X rfl rfl 27 _ U (HSX.out) hX9.symm hX1 ?_)
  rw [show w6.alloc (.cells #[.int .u32 0, .bool false, .bool false, .bool false, .int .u32 0, .int .i64 0, .int .i64 0, .int .i64 0, .int .i64 0] 27) = w6.alloc (.cells (vwA Vw.zero) 27) from rfl]
  clear U
  generalize (w6.alloc (.cells (vwA Vw.zero) 27)).setRow w6.heap.size X = w7 at *
  generalize w6.heap.size = T at *
  clear w6
  obtain ⟨VA7, K7, hgT⟩ := HVA.out
  have G7 := grown_trans G5 K7
  have L7 := HL5.out.kept K7
  have VB7 := V5.out.1.kept K7
  have HO7 := HO5.out.kept K7 (by simp [Value.ownBlock])
  have hVg := V5.out.2.1
  have hBV := V5.out.2.2
  have DO7 : Hid (w7.drew.ownsRow 0 5 1 (.slice (some ⟨g, 0, none⟩) (b.length + 3) cap) (b.length + 3) ((b ++ [201, 201, 201]).map bv)) := owns_mono (owns_keptNone HO7 (grown_drewN _ 1 none)) (Nat.zero_le _)
  have DC7 : Hid (Cells w7.drew a b) := H.out.keptNone (grown_trans G7 (grown_drewN _ 1 none))
  have HG7 : Hid (w.grownBy w7.drew none ∧ w.heap.size ≤ g) := ⟨grown_trans G7 (grown_drewN _ 1 none), by have := HBw.out; omega⟩
  have HV7 : Hid (VAt w7.drew T 27 X ∧ VAt w7.drew V 27 X ∧ VAt w7.drew B 23 #[.bool l.acfc, .bool l.pfc, .int .i64 l.mp]) := ⟨VA7.kept (grown_drewN _ 1 none), VB7.kept (grown_drewN _ 1 none), L7.kept (grown_drewN _ 1 none)⟩
  have HNE : Hid (some T ≠ some g ∧ some V ≠ some g ∧ some B ≠ some g) := by
    refine ⟨?_, ?_, ?_⟩ <;> simp only [ne_eq, Option.some.injEq] <;> omega
  have q0 : w7.cell? ⟨B, 0, none⟩ = some (.bool l.acfc) := L7.cell 0
  have q1 : w7.cell? ⟨B, 1, none⟩ = some (.bool l.pfc) := L7.cell 1
  have q2 : w7.cell? ⟨B, 2, none⟩ = some (.int .i64 l.mp) := L7.cell 2
  clear x0 x1 x2 HVA VA7 K7 hgT G7 L7 VB7 HO7 hVg hBV HL5 V5 HC5 HO5 G5 HBw
  go_region_with (first
    | (go_at_call 12; refine (kept_any g cap a ca b _ ?_ ?_ hn).mono ?_; (with_reducible exact DO7.out); (with_reducible exact DC7.out); rintro e w8 ⟨rfl, K8⟩; have G8 : Hid (w.grownBy w8 none) := grown_trans_new HG7.out.1 K8 (by intro k hk; obtain rfl := Option.some.inj hk; exact HG7.out.2); have VA8 : Hid (VAt w8 T 27 X) := HV7.out.1.grown K8 (Ne.symm HNE.out.1); have VB8 : Hid (VAt w8 V 27 X) := HV7.out.2.1.grown K8 (Ne.symm HNE.out.2.1); have LB8 : Hid (VAt w8 B 23 #[.bool l.acfc, .bool l.pfc, .int .i64 l.mp]) := HV7.out.2.2.grown K8 (Ne.symm HNE.out.2.2); have x0 : w8.cell? ⟨B, 0, none⟩ = some (.bool l.acfc) := LB8.out.cell 0; have x1 : w8.cell? ⟨B, 1, none⟩ = some (.bool l.pfc) := LB8.out.cell 1; have x2 : w8.cell? ⟨B, 2, none⟩ = some (.int .i64 l.mp) := LB8.out.cell 2; obtain ⟨c0, c1, c2, c3, c4, c5, c6, c7, c8⟩ := (HX.out ▸ VA8.out : VAt w8 T 27 (vwA v)).nine; obtain ⟨d0, d1, d2, d3, d4, d5, d6, d7, d8⟩ := (HX.out ▸ VB8.out : VAt w8 V 27 (vwA v)).nine)
    | (go_at_call 13; refine (HC1.out _).mono ?_; rintro e w9 ⟨rfl, K9⟩; have G9 : Hid (w.grownBy w9 none) := (by first | exact grown_trans G8.out K9 | exact grown_trans G10.out K9); (first | (have x90 := K9.cell x0 (by simp); have x91 := K9.cell x1 (by simp); have x92 := K9.cell x2 (by simp)) | skip))
    | (go_at_call 14; refine (HC2.out _).mono ?_; rintro e w10 ⟨rfl, K10⟩; have G10 : Hid (w.grownBy w10 none) := (by first | exact grown_trans G8.out K10 | exact grown_trans G9.out K10); (first | (have x100 := K10.cell x0 (by simp); have x101 := K10.cell x1 (by simp); have x102 := K10.cell x2 (by simp)) | skip))
    | (go_at_call 15; refine (awake7_any _).mono ?_; rintro e w11 ⟨rfl, K11⟩; have G11 : Hid (w.grownBy w11 none) := (by first | exact grown_trans G10.out K11 | exact grown_trans G9.out K11)))
  all_goals
    go_wp2
    go_ret
    exact ⟨rfl, G11.out⟩

set_option maxRecDepth 100000 in
theorem lifted (os : Os) (started : os.Started) (H : Type) (enc : TypeId × Value → H) :
    ReturnsInHanded {} Try.checked os 3 .any (Rows.frameLooksSpec.pre6 enc Try.prog Try.f3 Rows.frameLooksRow.domain false) (Rows.frameLooksSpec.post enc Try.prog Try.f3 false true false false) := by
  refine returnsInHanded_of_change_sized (C := Try.checked) own started (by kernel_rfl) Try.func3
    (ChangeSpec.witness6 (enc := enc) (C := Try.checked) false ⟨#[], #[.agg #[.bool false, .bool false, .int .i64 0], .slice none 0 0], []⟩ 8 (by kernel_rfl) (by kernel_rfl) (by kernel_rfl) (by kernel_rfl)) ?_
  intro W base args ds gs before hval0 hW hcnd hsz0 _
  have hsz : (DataW.weightsEach Try.prog (Try.f3.params.toList ++ Rows.frameLooksSpec.plain.varTypes Try.prog) (ds ++ gs)).all (· ≤ reachBytes) = true := hsz0
  have hval : ∀ (j : Nat) t v, Try.f3.params[j]? = some t → args[j]? = some v → Value.okWide Try.prog W .any base t v := hval0
  have hW' := hW
  obtain ⟨p, q, hA0, hV, rfl, hfz, hnd⟩ := hW
  have hA : DataW.TrodAll enc Try.prog W 0 (fun _ => true) true Try.f3.params.toList args.toList ds p := hA0
  rw [Try.params3] at hA hval hsz
  obtain ⟨v0, vs0, d0, ds0, p0, q0, hargs, rfl, rfl, h0, r0⟩ := trodAll_cons hA
  obtain ⟨v1, vs1, d1, ds1, p1, q1, rfl, rfl, rfl, h1, r1⟩ := trodAll_cons r0
  obtain ⟨rfl, rfl, rfl⟩ := trodAll_nil r1
  obtain rfl : args = #[v0, v1] := by cases args; simp_all
  obtain ⟨rfl, rfl⟩ := trodVars_none hV
  have k0 := h0
  have lt0 : ∀ x ∈ p0, x.block < W.heap.size := by obtain ⟨m, hm⟩ := k0; exact DataW.trod_lt m _ _ _ hm
  obtain ⟨x0, rfl⟩ := open_link h0
  obtain ⟨a1, len1, cap1, rfl⟩ := okWide_slice Try.underlying24 (hval 1 24 v1 rfl rfl)
  have k1 := h1
  have lt1 : ∀ x ∈ p1, x.block < W.heap.size := by obtain ⟨m, hm⟩ := k1; exact DataW.trod_lt m _ _ _ hm
  obtain ⟨xs1, rfl, hcells1, hnil1, hdat1⟩ := open_bytes Try.underlying24 Try.underlying5 (by kernel_rfl) h1
  have hlen1 : xs1.length * 1 ≤ 140737488351232 := by
    rcases hdat1 with ⟨_, rfl⟩ | ⟨elems, spare, rfl, hle⟩
    · simp
    · have := sized_slice hsz (j := 1) (t := 24) (e := 5) rfl rfl Try.underlying24
      rw [bytes5] at this
      unfold reachBytes at this
      omega
  clear hA0 hval0
  refine (walk x0 a1 cap1 xs1 W hcells1 hnil1 (by omega)).mono fun e W' ⟨he, hg⟩ => ?_
  subst he
  have bel : Below W.heap.size W W' := (Below.refl _ _).grown hg (Nat.le_refl _) (by simp)
  exact ⟨_, rfl, _, _, _, [], _, [], hW', trodAll_mk1 (shut_bool Try.underlying4 _), (trodAll_cons_mk (Below.trod laidOut (by kernel_rfl) (of_decide_eq_true (by kernel_rfl)) k0 bel lt0) (trodAll_cons_mk (Below.trod laidOut (by kernel_rfl) (of_decide_eq_true (by kernel_rfl)) k1 bel lt1) trodAll_mk0)), rfl, bel.frame _, fun h => by cases h⟩

theorem over : Rows.FrameLooksSaid :=
  OpenClaim.holds_of_wide 3 Try.f3 rfl rfl rfl rfl rfl rfl rfl ⟨rfl, rfl, rfl, rfl, rfl⟩ rfl rfl rfl rfl rfl (by kernel_rfl) Try.func3 (by kernel_rfl)
    (of_decide_eq_true (by kernel_rfl)) (by unfold Func.isWrapper; first | (rw [if_pos (by decide +kernel)]; kernel_rfl) | (rw [if_neg (by decide +kernel)]; exact ⟨rfl, rfl⟩))
    (fun os started H enc _ => lifted os started H enc)

end frameLooks

theorem frameLooks_holds : Rows.FrameLooksSaid := frameLooks.over
#print axioms frameLooks_holds
end Go.Proofs.Ytjjccbegljkkfaa
