/-
  For every list of bytes (its capacity at most 2^47 - 4096 bytes, as the form itself says of each argument) riddlelaw7.FrameLinks returns true and leaves what was there as it was: no condition of ours.
-/
import Derived.Test.YtjjccbegljkkfaaOpenL
import Derived.Test.YtjjccbegljkkfaaFrameK
import Derived.Deep.DeepCutAuto
namespace Go.Proofs.Ytjjccbegljkkfaa
open Go.ChangeShapes Go.WideShapes Go.ChangeAt Go.RowKit
open Go.ChangeMaps (open_string shut_string)
set_option maxRecDepth 100000
namespace frameLinks

set_option maxRecDepth 100000 in
set_option maxHeartbeats 4000000 in
theorem walk (a : Option Addr) (ca : Nat) (b : List UInt8) (w : World) (ha : Cells w a b) (hc0 : a = none → ca = 0) (hn : b.length ≤ 140737488351232) :
    Calls Try.prog 4 #[.slice a b.length ca] w fun e w' => e = .returned (.bool true) ∧ w.grownBy w' none := by
  have H0 : Hid (Cells w a b) := ha
  clear ha
  go_enter Try.func4, Try.ntmps4
  go_wp2
  go_loopw [3] (fun i wr => ∃ j : Nat, j ≤ 12 ∧ i = .int .i64 j ∧ Hid (w.grownBy wr none)) (fun i _ => 12 - (intOf i).toNat)
  case atStart => exact ⟨0, by omega, rfl, World.grownBy.refl _ _⟩
  case round =>
    obtain ⟨j, hj, rfl, HR⟩ := hrel
    by_cases hlt : j < 12
    · have hl : (j : Int) < 12 := by omega
      go_upto_region 5 with fail
      obtain ⟨l, e0, e1, e2⟩ : ∃ l : Lk, ((j : Int) % 2 == 1) = l.acfc ∧ ((j : Int) / 2 % 2 == 1) = l.pfc ∧ (j : Int) / 4 = l.mp := ⟨⟨_, _, _⟩, rfl, rfl, rfl⟩
      rw [e0, e1, e2]
      clear e0 e1 e2
      have L0 := VAt.alloc wr 23 #[.bool l.acfc, .bool l.pfc, .int .i64 l.mp]
      have G1 := grown_trans HR.out (World.grownBy_alloc wr (.cells #[.bool l.acfc, .bool l.pfc, .int .i64 l.mp] 23) none)
      generalize wr.alloc (.cells #[.bool l.acfc, .bool l.pfc, .int .i64 l.mp] 23) = w1 at *
      generalize wr.heap.size = B at *
      clear HR wr
      have x0 : w1.cell? ⟨B, 0, none⟩ = some (.bool l.acfc) := L0.cell 0
      have x1 : w1.cell? ⟨B, 1, none⟩ = some (.bool l.pfc) := L0.cell 1
      have x2 : w1.cell? ⟨B, 2, none⟩ = some (.int .i64 l.mp) := L0.cell 2
      clear L0
      obtain ⟨v, hv⟩ : ∃ v, exV Vw.zero (lookX l b) = v := ⟨_, rfl⟩
      obtain ⟨E, hE⟩ : ∃ E, exE (lookX l b) = E := ⟨_, rfl⟩
      obtain ⟨X, hX⟩ : ∃ X, vwA v = X := ⟨_, rfl⟩
      have hX9 : X.size = 9 := by rw [← hX]; rfl
      have hX1 : X.all (·.oneCell') = true := by rw [← hX]; exact vwA_all v
      have HS : Hid ((Try.prog.info? 27).map (·.size) = some X.size) := by rw [hX9]; exact size27
      have HX : Hid (vwA v = X) := hX
      have HSX := HS
      have HK : Hid (∀ (a : Option Addr) (ca : Nat) (W : World), Cells W a b → Calls Try.prog 11 #[.agg #[.bool l.acfc, .bool l.pfc, .int .i64 l.mp], .slice a b.length ca] W fun e w' => e = .returned (.tuple #[.agg X, .int .i64 E]) ∧ W.grownBy w' none) := fun a ca W h => by
        have k := look_any l a ca b W h (by omega)
        rw [hv, hE, hX] at k
        exact k
      have HL : Hid (Calls Try.prog 9 #[.agg #[.bool l.acfc, .bool l.pfc, .int .i64 l.mp], .slice a b.length ca] w1 fun e w' => e = .returned (.tuple #[.agg X, .int .i64 E]) ∧ w1.grownBy w' none) := by
        have k := reflook_any l a ca b w1 (H0.out.keptNone G1) (by omega)
        rw [hv, hE, hX] at k
        exact k
      clear hv hE hX
      go_wp2_with fail
      refine HL.out.mono ?_
      rintro e w3 ⟨rfl, K3⟩
      have U := VAt.alloc w3 27 (vwA Vw.zero)
      have K4 : w1.grownBy ((w3.alloc (.cells (vwA Vw.zero) 27)).setRow w3.heap.size X) none := vgrown_setRow (grown_trans K3 (World.grownBy_alloc _ _ none)) _ _ (.inr K3.size)
      have HVA : Hid (VAt ((w3.alloc (.cells (vwA Vw.zero) 27)).setRow w3.heap.size X) w3.heap.size 27 X ∧ w1.grownBy ((w3.alloc (.cells (vwA Vw.zero) 27)).setRow w3.heap.size X) none) := ⟨U.setRow X, K4⟩
      clear K4 K3 HL
      go_upto_region 6 with (refine wpList_store_row rfl 27 (.tmp 5) (.tmp 27) rfl w3.heap.size X rfl rfl 27 _ U (HSX.out) hX9.symm hX1 ?_)
      rw [show w3.alloc (.cells #[.int .u32 0, .bool false, .bool false, .bool false, .int .u32 0, .int .i64 0, .int .i64 0, .int .i64 0, .int .i64 0] 27) = w3.alloc (.cells (vwA Vw.zero) 27) from rfl]
      clear U
      generalize (w3.alloc (.cells (vwA Vw.zero) 27)).setRow w3.heap.size X = w4 at *
      generalize w3.heap.size = V1 at *
      clear w3
      have y0 := HVA.out.2.cell x0 (by simp)
      have y1 := HVA.out.2.cell x1 (by simp)
      have y2 := HVA.out.2.cell x2 (by simp)
      have G4 := grown_trans G1 HVA.out.2
      have VA1 : Hid (VAt w4 V1 27 X) := HVA.out.1
      clear HVA x0 x1 x2 G1
      clear w1
      obtain ⟨x0, x1, x2⟩ := And.intro y0 (And.intro y1 y2)
      clear y0 y1 y2
      go_upto_region 6 with fail
      go_cut [7, 8] from 29 to 35 (fun s e wx => ∃ V, s = .pointer (some ⟨V, 0, none⟩) ∧ e = .int .i64 E ∧ VAt wx V 27 X ∧ w4.grownBy wx none ∧ w4.heap.size ≤ V)
      case first =>
        have HQ1 : Hid (Cells w4.drew a b) := H0.out.keptNone (grown_trans G4 (grown_drewN _ 1 none))
        have HQ2 : Hid (Cells (w4.alloc (.cells #[.int .u32 0, .bool false, .bool false, .bool false, .int .u32 0, .int .i64 0, .int .i64 0, .int .i64 0, .int .i64 0] 27)).drew a b) := H0.out.keptNone (grown_trans G4 (grown_trans (World.grownBy_alloc w4 (.cells #[.int .u32 0, .bool false, .bool false, .bool false, .int .u32 0, .int .i64 0, .int .i64 0, .int .i64 0, .int .i64 0] 27) none) (grown_drewN _ 1 none)))
        have zx0 := (World.grownBy_alloc w4 (.cells #[.int .u32 0, .bool false, .bool false, .bool false, .int .u32 0, .int .i64 0, .int .i64 0, .int .i64 0, .int .i64 0] 27) none).cell x0 (by simp)
        have zx1 := (World.grownBy_alloc w4 (.cells #[.int .u32 0, .bool false, .bool false, .bool false, .int .u32 0, .int .i64 0, .int .i64 0, .int .i64 0, .int .i64 0] 27) none).cell x1 (by simp)
        have zx2 := (World.grownBy_alloc w4 (.cells #[.int .u32 0, .bool false, .bool false, .bool false, .int .u32 0, .int .i64 0, .int .i64 0, .int .i64 0, .int .i64 0] 27) none).cell x2 (by simp)
        go_region_with (first
          | (go_at_call 16; refine (copy_any a ca b _ ?_ hc0 (by omega)).mono ?_; (with_reducible exact HQ1.out); rintro e w2 ⟨v2, rfl, O2, K2⟩; have KW2 : Hid (w4.grownBy w2 none) := (by first | exact K2 | exact grown_trans (grown_drewN w4 1 none) K2); have x20 := KW2.out.cell x0 (by simp); have y20 := (World.grownBy_alloc w2 (.cells #[.int .u32 0, .bool false, .bool false, .bool false, .int .u32 0, .int .i64 0, .int .i64 0, .int .i64 0, .int .i64 0] 27) none).cell x20 (by simp); have x21 := KW2.out.cell x1 (by simp); have y21 := (World.grownBy_alloc w2 (.cells #[.int .u32 0, .bool false, .bool false, .bool false, .int .u32 0, .int .i64 0, .int .i64 0, .int .i64 0, .int .i64 0] 27) none).cell x21 (by simp); have x22 := KW2.out.cell x2 (by simp); have y22 := (World.grownBy_alloc w2 (.cells #[.int .u32 0, .bool false, .bool false, .bool false, .int .u32 0, .int .i64 0, .int .i64 0, .int .i64 0, .int .i64 0] 27) none).cell x22 (by simp); obtain ⟨ao2, cap2, rfl, C2, -⟩ := O2.shape; have HC2 : Hid (Cells w2 ao2 b) := C2; have HC2Z : Hid (Cells (w2.alloc (.cells #[.int .u32 0, .bool false, .bool false, .bool false, .int .u32 0, .int .i64 0, .int .i64 0, .int .i64 0, .int .i64 0] 27)) ao2 b) := C2.keptNone (World.grownBy_alloc _ _ _))
          | (go_at_call 16; refine (copy_any a ca b _ ?_ hc0 (by omega)).mono ?_; (with_reducible exact HQ2.out); rintro e w2 ⟨v2, rfl, O2, K2⟩; have U2 : Hid (VAt w2 w4.heap.size 27 (vwA Vw.zero)) := ((VAt.alloc w4 27 (vwA Vw.zero)).kept (grown_drewN _ 1 none)).kept K2; have KW2 : Hid (w4.grownBy w2 none) := grown_trans (grown_trans (World.grownBy_alloc w4 (.cells #[.int .u32 0, .bool false, .bool false, .bool false, .int .u32 0, .int .i64 0, .int .i64 0, .int .i64 0, .int .i64 0] 27) none) (grown_drewN _ 1 none)) K2; have x20 := KW2.out.cell x0 (by simp); have y20 := (World.grownBy_alloc w2 (.cells #[.int .u32 0, .bool false, .bool false, .bool false, .int .u32 0, .int .i64 0, .int .i64 0, .int .i64 0, .int .i64 0] 27) none).cell x20 (by simp); have x21 := KW2.out.cell x1 (by simp); have y21 := (World.grownBy_alloc w2 (.cells #[.int .u32 0, .bool false, .bool false, .bool false, .int .u32 0, .int .i64 0, .int .i64 0, .int .i64 0, .int .i64 0] 27) none).cell x21 (by simp); have x22 := KW2.out.cell x2 (by simp); have y22 := (World.grownBy_alloc w2 (.cells #[.int .u32 0, .bool false, .bool false, .bool false, .int .u32 0, .int .i64 0, .int .i64 0, .int .i64 0, .int .i64 0] 27) none).cell x22 (by simp); obtain ⟨ao2, cap2, rfl, C2, -⟩ := O2.shape; have HC2 : Hid (Cells w2 ao2 b) := C2; have HC2Z : Hid (Cells (w2.alloc (.cells #[.int .u32 0, .bool false, .bool false, .bool false, .int .u32 0, .int .i64 0, .int .i64 0, .int .i64 0, .int .i64 0] 27)) ao2 b) := C2.keptNone (World.grownBy_alloc _ _ _))
          | (go_at_call 11; refine (HK.out _ _ _ ?_).mono ?_; (with_reducible exact HC2.out); rintro e w3 ⟨rfl, K3⟩; have U3 := U2.out.kept K3; have hs3 : (storeCells ⟨w4.heap.size, 0, none⟩ X.toList).run Try.prog w3 = .ok () (w3.setRow w4.heap.size X) := storeCells_row U3 HS.out hX9.symm hX1; have hfin : Hid (VAt (w3.setRow w4.heap.size X) w4.heap.size 27 X ∧ w4.grownBy (w3.setRow w4.heap.size X) none ∧ w4.heap.size ≤ w4.heap.size) := ⟨U3.setRow _, vgrown_setRow (grown_trans KW2.out K3) _ _ (.inr (Nat.le_refl _)), Nat.le_refl _⟩)
          | (go_at_call 11; refine (HK.out _ _ _ ?_).mono ?_; (with_reducible exact HC2.out); rintro e w3 ⟨rfl, K3⟩; have hs3 : (storeCells ⟨w3.heap.size, 0, none⟩ X.toList).run Try.prog (w3.alloc (.cells #[.int .u32 0, .bool false, .bool false, .bool false, .int .u32 0, .int .i64 0, .int .i64 0, .int .i64 0, .int .i64 0] 27)) = .ok () ((w3.alloc (.cells #[.int .u32 0, .bool false, .bool false, .bool false, .int .u32 0, .int .i64 0, .int .i64 0, .int .i64 0, .int .i64 0] 27)).setRow w3.heap.size X) := storeCells_row (VAt.alloc w3 27 (vwA Vw.zero)) HS.out hX9.symm hX1; have hfin : Hid (VAt ((w3.alloc (.cells #[.int .u32 0, .bool false, .bool false, .bool false, .int .u32 0, .int .i64 0, .int .i64 0, .int .i64 0, .int .i64 0] 27)).setRow w3.heap.size X) w3.heap.size 27 X ∧ w4.grownBy ((w3.alloc (.cells #[.int .u32 0, .bool false, .bool false, .bool false, .int .u32 0, .int .i64 0, .int .i64 0, .int .i64 0, .int .i64 0] 27)).setRow w3.heap.size X) none ∧ w4.heap.size ≤ w3.heap.size) := ⟨(VAt.alloc w3 27 (vwA Vw.zero)).setRow _, vgrown_setRow (grown_trans (grown_trans KW2.out K3) (World.grownBy_alloc _ _ _)) _ _ (.inr (grown_trans KW2.out K3).size), (grown_trans KW2.out K3).size⟩)
          | (go_at_call 11; refine (HK.out _ _ _ ?_).mono ?_; (with_reducible exact HC2Z.out); rintro e w3 ⟨rfl, K3⟩; have U3 : VAt w3 w2.heap.size 27 (vwA Vw.zero) := (VAt.alloc w2 _ _).kept K3; have hs3 : (storeCells ⟨w2.heap.size, 0, none⟩ X.toList).run Try.prog w3 = .ok () (w3.setRow w2.heap.size X) := storeCells_row U3 HS.out hX9.symm hX1; have hfin : Hid (VAt (w3.setRow w2.heap.size X) w2.heap.size 27 X ∧ w4.grownBy (w3.setRow w2.heap.size X) none ∧ w4.heap.size ≤ w2.heap.size) := ⟨U3.setRow _, vgrown_setRow (grown_trans KW2.out (grown_trans (World.grownBy_alloc w2 (.cells #[.int .u32 0, .bool false, .bool false, .bool false, .int .u32 0, .int .i64 0, .int .i64 0, .int .i64 0, .int .i64 0] 27) none) K3)) _ _ (.inr KW2.out.size), KW2.out.size⟩))
        all_goals
          go_wp2
          go_meet
          exact ⟨_, rfl, rfl, hfin.out⟩
      case rest =>
        obtain ⟨V, rfl, rfl, VA, K, hV⟩ := hcut
        have G5 := grown_trans G4 K
        have VB := VA1.out.kept K
        rw [← HX.out] at VA VB
        obtain ⟨c0, c1, c2, c3, c4, c5, c6, c7, c8⟩ := VA.nine
        obtain ⟨d0, d1, d2, d3, d4, d5, d6, d7, d8⟩ := VB.nine
        clear VA VB x0 x1 x2 HK HS HSX hX9 hX1 HX K G4 VA1 hV
        go_wp2
        go_roundw
        case rel => exact ⟨j + 1, by omega, by go_num, G5⟩
        case measure => simp [intOf]; omega
    · obtain rfl : j = 12 := by omega
      rw [show ((12 : Nat) : Int) = 12 from rfl]
      have G := HR.out
      go_wp2_with fail
      refine (awake7_any _).mono ?_
      rintro e wz ⟨rfl, Kz⟩
      go_wp2
      go_ret
      exact ⟨rfl, grown_trans G Kz⟩

set_option maxRecDepth 100000 in
theorem lifted (os : Os) (started : os.Started) (H : Type) (enc : TypeId × Value → H) :
    ReturnsInHanded {} Try.checked os 4 .any (Rows.frameLinksSpec.pre6 enc Try.prog Try.f4 Rows.frameLinksRow.domain false) (Rows.frameLinksSpec.post enc Try.prog Try.f4 false true false false) := by
  refine returnsInHanded_of_change_sized (C := Try.checked) own started (by kernel_rfl) Try.func4
    (ChangeSpec.witness6 (enc := enc) (C := Try.checked) false ⟨#[], #[.slice none 0 0], []⟩ 8 (by kernel_rfl) (by kernel_rfl) (by kernel_rfl) (by kernel_rfl)) ?_
  intro W base args ds gs before hval0 hW hcnd hsz0 _
  have hsz : (DataW.weightsEach Try.prog (Try.f4.params.toList ++ Rows.frameLinksSpec.plain.varTypes Try.prog) (ds ++ gs)).all (· ≤ reachBytes) = true := hsz0
  have hval : ∀ (j : Nat) t v, Try.f4.params[j]? = some t → args[j]? = some v → Value.okWide Try.prog W .any base t v := hval0
  have hW' := hW
  obtain ⟨p, q, hA0, hV, rfl, hfz, hnd⟩ := hW
  have hA : DataW.TrodAll enc Try.prog W 0 (fun _ => true) true Try.f4.params.toList args.toList ds p := hA0
  rw [Try.params4] at hA hval hsz
  obtain ⟨v0, vs0, d0, ds0, p0, q0, hargs, rfl, rfl, h0, r0⟩ := trodAll_cons hA
  obtain ⟨rfl, rfl, rfl⟩ := trodAll_nil r0
  obtain rfl : args = #[v0] := by cases args; simp_all
  obtain ⟨rfl, rfl⟩ := trodVars_none hV
  obtain ⟨a0, len0, cap0, rfl⟩ := okWide_slice Try.underlying24 (hval 0 24 v0 rfl rfl)
  have k0 := h0
  have lt0 : ∀ x ∈ p0, x.block < W.heap.size := by obtain ⟨m, hm⟩ := k0; exact DataW.trod_lt m _ _ _ hm
  obtain ⟨xs0, rfl, hcells0, hnil0, hdat0⟩ := open_bytes Try.underlying24 Try.underlying5 (by kernel_rfl) h0
  have hlen0 : xs0.length * 1 ≤ 140737488351232 := by
    rcases hdat0 with ⟨_, rfl⟩ | ⟨elems, spare, rfl, hle⟩
    · simp
    · have := sized_slice hsz (j := 0) (t := 24) (e := 5) rfl rfl Try.underlying24
      rw [bytes5] at this
      unfold reachBytes at this
      omega
  clear hA0 hval0
  refine (walk a0 cap0 xs0 W hcells0 hnil0 (by omega)).mono fun e W' ⟨he, hg⟩ => ?_
  subst he
  have bel : Below W.heap.size W W' := (Below.refl _ _).grown hg (Nat.le_refl _) (by simp)
  exact ⟨_, rfl, _, _, _, [], _, [], hW', trodAll_mk1 (shut_bool Try.underlying4 _), (trodAll_cons_mk (Below.trod laidOut (by kernel_rfl) (of_decide_eq_true (by kernel_rfl)) k0 bel lt0) trodAll_mk0), rfl, bel.frame _, fun h => by cases h⟩

theorem over : Rows.FrameLinksSaid :=
  OpenClaim.holds_of_wide 4 Try.f4 rfl rfl rfl rfl rfl rfl rfl ⟨rfl, rfl, rfl, rfl, rfl⟩ rfl rfl rfl rfl rfl (by kernel_rfl) Try.func4 (by kernel_rfl)
    (of_decide_eq_true (by kernel_rfl)) (by unfold Func.isWrapper; first | (rw [if_pos (by decide +kernel)]; kernel_rfl) | (rw [if_neg (by decide +kernel)]; exact ⟨rfl, rfl⟩))
    (fun os started H enc _ => lifted os started H enc)

end frameLinks

theorem frameLinks_holds : Rows.FrameLinksSaid := frameLinks.over
#print axioms frameLinks_holds
end Go.Proofs.Ytjjccbegljkkfaa
