/-
  For every link and every list of bytes (its capacity at most 2^47 - 4096 bytes, as the form itself says of each argument) riddlelaw7.FrameShort returns true and leaves what was there as it was: no condition of ours.
-/
import Derived.Test.YtjjccbegljkkfabOpenL
import Derived.Test.YtjjccbegljkkfabFrameK
import Derived.Deep.DeepCutAuto
namespace Go.Proofs.Ytjjccbegljkkfab
open Go.ChangeShapes Go.WideShapes Go.ChangeAt Go.RowKit
open Go.ChangeMaps (open_string shut_string)
set_option maxRecDepth 100000
namespace frameShort

set_option maxRecDepth 100000 in
set_option maxHeartbeats 4000000 in
theorem walk (l : Lk) (a : Option Addr) (ca : Nat) (b : List UInt8) (w : World) (ha : Cells w a b) (hc0 : a = none → ca = 0) (hn : b.length ≤ 140737488351232) (hcap : b.length ≤ ca) :
    Calls Try.prog 3 #[.agg (lkA l), .slice a b.length ca] w fun e w' => e = .returned (.bool true) ∧ w.grownBy w' none := by
  have H : Hid (Cells w a b) := ha
  obtain ⟨v, hv⟩ : ∃ v, exV Vw.zero (lookX l b) = v := ⟨_, rfl⟩
  obtain ⟨E, hE⟩ : ∃ E, exE (lookX l b) = E := ⟨_, rfl⟩
  obtain ⟨X, hX⟩ : ∃ X, vwA v = X := ⟨_, rfl⟩
  have hX9 : X.size = 9 := by rw [← hX]; rfl
  have hX1 : X.all (·.oneCell') = true := by rw [← hX]; exact vwA_all v
  have HS : Hid ((Try.prog.info? 27).map (·.size) = some X.size) := by rw [hX9]; exact size27
  have HX : Hid (vwA v = X) := hX
  have HK : Hid (∀ (a : Option Addr) (ca : Nat) (W : World), Cells W a b → Calls Try.prog 4 #[.agg #[.bool l.acfc, .bool l.pfc, .int .i64 l.mp], .slice a b.length ca] W fun e w' => e = .returned (.tuple #[.agg X, .int .i64 E]) ∧ W.grownBy w' none) := fun a ca W h => by
    have k := look_any l a ca b W h (by omega)
    rw [hv, hE, hX] at k
    exact k
  have HV : Hid (exV Vw.zero (lookX l b) = v ∧ exE (lookX l b) = E) := ⟨hv, hE⟩
  have L0 := VAt.alloc w 23 (lkA l)
  have G0 : w.grownBy (w.alloc (.cells (lkA l) 23)) none := World.grownBy_alloc _ _ _
  clear hv hE hX ha
  simp only [lkA] at L0 G0 ⊢
  go_enter Try.func3, Try.ntmps3
  go_upto_region 1 with fail
  generalize w.alloc (.cells #[.bool l.acfc, .bool l.pfc, .int .i64 l.mp] 23) = w1 at *
  generalize w.heap.size = B at *
  have x0 : w1.cell? ⟨B, 0, none⟩ = some (.bool l.acfc) := L0.cell 0
  have x1 : w1.cell? ⟨B, 1, none⟩ = some (.bool l.pfc) := L0.cell 1
  have x2 : w1.cell? ⟨B, 2, none⟩ = some (.int .i64 l.mp) := L0.cell 2
  have HL0 : Hid (VAt w1 B 23 #[.bool l.acfc, .bool l.pfc, .int .i64 l.mp]) := L0
  clear L0
  go_upto_region 1 with fail
  go_cut [5, 6] from 12 to 18 (fun s e wx => ∃ V, s = .pointer (some ⟨V, 0, none⟩) ∧ e = .int .i64 E ∧ VAt wx V 27 X ∧ w1.grownBy wx none ∧ w1.heap.size ≤ V)
  case first =>
    have HQ1 : Hid (Cells w1.drew a b) := H.out.keptNone (grown_trans G0 (grown_drewN _ 1 none))
    have HQ2 : Hid (Cells (w1.alloc (.cells #[.int .u32 0, .bool false, .bool false, .bool false, .int .u32 0, .int .i64 0, .int .i64 0, .int .i64 0, .int .i64 0] 27)).drew a b) := H.out.keptNone (grown_trans G0 (grown_trans (World.grownBy_alloc w1 (.cells #[.int .u32 0, .bool false, .bool false, .bool false, .int .u32 0, .int .i64 0, .int .i64 0, .int .i64 0, .int .i64 0] 27) none) (grown_drewN _ 1 none)))
    have zx0 := (World.grownBy_alloc w1 (.cells #[.int .u32 0, .bool false, .bool false, .bool false, .int .u32 0, .int .i64 0, .int .i64 0, .int .i64 0, .int .i64 0] 27) none).cell x0 (by simp)
    have zx1 := (World.grownBy_alloc w1 (.cells #[.int .u32 0, .bool false, .bool false, .bool false, .int .u32 0, .int .i64 0, .int .i64 0, .int .i64 0, .int .i64 0] 27) none).cell x1 (by simp)
    have zx2 := (World.grownBy_alloc w1 (.cells #[.int .u32 0, .bool false, .bool false, .bool false, .int .u32 0, .int .i64 0, .int .i64 0, .int .i64 0, .int .i64 0] 27) none).cell x2 (by simp)
    go_region_with (first
      | (go_at_call 5; refine (copy_any a ca b _ ?_ hc0 (by omega)).mono ?_; (with_reducible exact HQ1.out); rintro e w2 ⟨v2, rfl, O2, K2⟩; have KW2 : Hid (w1.grownBy w2 none) := (by first | exact K2 | exact grown_trans (grown_drewN w1 1 none) K2); have x20 := KW2.out.cell x0 (by simp); have y20 := (World.grownBy_alloc w2 (.cells #[.int .u32 0, .bool false, .bool false, .bool false, .int .u32 0, .int .i64 0, .int .i64 0, .int .i64 0, .int .i64 0] 27) none).cell x20 (by simp); have x21 := KW2.out.cell x1 (by simp); have y21 := (World.grownBy_alloc w2 (.cells #[.int .u32 0, .bool false, .bool false, .bool false, .int .u32 0, .int .i64 0, .int .i64 0, .int .i64 0, .int .i64 0] 27) none).cell x21 (by simp); have x22 := KW2.out.cell x2 (by simp); have y22 := (World.grownBy_alloc w2 (.cells #[.int .u32 0, .bool false, .bool false, .bool false, .int .u32 0, .int .i64 0, .int .i64 0, .int .i64 0, .int .i64 0] 27) none).cell x22 (by simp); obtain ⟨ao2, cap2, rfl, C2, -⟩ := O2.shape; have HC2 : Hid (Cells w2 ao2 b) := C2; have HC2Z : Hid (Cells (w2.alloc (.cells #[.int .u32 0, .bool false, .bool false, .bool false, .int .u32 0, .int .i64 0, .int .i64 0, .int .i64 0, .int .i64 0] 27)) ao2 b) := C2.keptNone (World.grownBy_alloc _ _ _))
      | (go_at_call 5; refine (copy_any a ca b _ ?_ hc0 (by omega)).mono ?_; (with_reducible exact HQ2.out); rintro e w2 ⟨v2, rfl, O2, K2⟩; have U2 : Hid (VAt w2 w1.heap.size 27 (vwA Vw.zero)) := ((VAt.alloc w1 27 (vwA Vw.zero)).kept (grown_drewN _ 1 none)).kept K2; have KW2 : Hid (w1.grownBy w2 none) := grown_trans (grown_trans (World.grownBy_alloc w1 (.cells #[.int .u32 0, .bool false, .bool false, .bool false, .int .u32 0, .int .i64 0, .int .i64 0, .int .i64 0, .int .i64 0] 27) none) (grown_drewN _ 1 none)) K2; have x20 := KW2.out.cell x0 (by simp); have y20 := (World.grownBy_alloc w2 (.cells #[.int .u32 0, .bool false, .bool false, .bool false, .int .u32 0, .int .i64 0, .int .i64 0, .int .i64 0, .int .i64 0] 27) none).cell x20 (by simp); have x21 := KW2.out.cell x1 (by simp); have y21 := (World.grownBy_alloc w2 (.cells #[.int .u32 0, .bool false, .bool false, .bool false, .int .u32 0, .int .i64 0, .int .i64 0, .int .i64 0, .int .i64 0] 27) none).cell x21 (by simp); have x22 := KW2.out.cell x2 (by simp); have y22 := (World.grownBy_alloc w2 (.cells #[.int .u32 0, .bool false, .bool false, .bool false, .int .u32 0, .int .i64 0, .int .i64 0, .int .i64 0, .int .i64 0] 27) none).cell x22 (by simp); obtain ⟨ao2, cap2, rfl, C2, -⟩ := O2.shape; have HC2 : Hid (Cells w2 ao2 b) := C2; have HC2Z : Hid (Cells (w2.alloc (.cells #[.int .u32 0, .bool false, .bool false, .bool false, .int .u32 0, .int .i64 0, .int .i64 0, .int .i64 0, .int .i64 0] 27)) ao2 b) := C2.keptNone (World.grownBy_alloc _ _ _))
      | (go_at_call 4; refine (HK.out _ _ _ ?_).mono ?_; (with_reducible exact HC2.out); rintro e w3 ⟨rfl, K3⟩; have U3 := U2.out.kept K3; have hs3 : (storeCells ⟨w1.heap.size, 0, none⟩ X.toList).run Try.prog w3 = .ok () (w3.setRow w1.heap.size X) := storeCells_row U3 HS.out hX9.symm hX1; have hfin : Hid (VAt (w3.setRow w1.heap.size X) w1.heap.size 27 X ∧ w1.grownBy (w3.setRow w1.heap.size X) none ∧ w1.heap.size ≤ w1.heap.size) := ⟨U3.setRow _, vgrown_setRow (grown_trans KW2.out K3) _ _ (.inr (Nat.le_refl _)), Nat.le_refl _⟩)
      | (go_at_call 4; refine (HK.out _ _ _ ?_).mono ?_; (with_reducible exact HC2.out); rintro e w3 ⟨rfl, K3⟩; have hs3 : (storeCells ⟨w3.heap.size, 0, none⟩ X.toList).run Try.prog (w3.alloc (.cells #[.int .u32 0, .bool false, .bool false, .bool false, .int .u32 0, .int .i64 0, .int .i64 0, .int .i64 0, .int .i64 0] 27)) = .ok () ((w3.alloc (.cells #[.int .u32 0, .bool false, .bool false, .bool false, .int .u32 0, .int .i64 0, .int .i64 0, .int .i64 0, .int .i64 0] 27)).setRow w3.heap.size X) := storeCells_row (VAt.alloc w3 27 (vwA Vw.zero)) HS.out hX9.symm hX1; have hfin : Hid (VAt ((w3.alloc (.cells #[.int .u32 0, .bool false, .bool false, .bool false, .int .u32 0, .int .i64 0, .int .i64 0, .int .i64 0, .int .i64 0] 27)).setRow w3.heap.size X) w3.heap.size 27 X ∧ w1.grownBy ((w3.alloc (.cells #[.int .u32 0, .bool false, .bool false, .bool false, .int .u32 0, .int .i64 0, .int .i64 0, .int .i64 0, .int .i64 0] 27)).setRow w3.heap.size X) none ∧ w1.heap.size ≤ w3.heap.size) := ⟨(VAt.alloc w3 27 (vwA Vw.zero)).setRow _, vgrown_setRow (grown_trans (grown_trans KW2.out K3) (World.grownBy_alloc _ _ _)) _ _ (.inr (grown_trans KW2.out K3).size), (grown_trans KW2.out K3).size⟩)
      | (go_at_call 4; refine (HK.out _ _ _ ?_).mono ?_; (with_reducible exact HC2Z.out); rintro e w3 ⟨rfl, K3⟩; have U3 : VAt w3 w2.heap.size 27 (vwA Vw.zero) := (VAt.alloc w2 _ _).kept K3; have hs3 : (storeCells ⟨w2.heap.size, 0, none⟩ X.toList).run Try.prog w3 = .ok () (w3.setRow w2.heap.size X) := storeCells_row U3 HS.out hX9.symm hX1; have hfin : Hid (VAt (w3.setRow w2.heap.size X) w2.heap.size 27 X ∧ w1.grownBy (w3.setRow w2.heap.size X) none ∧ w1.heap.size ≤ w2.heap.size) := ⟨U3.setRow _, vgrown_setRow (grown_trans KW2.out (grown_trans (World.grownBy_alloc w2 (.cells #[.int .u32 0, .bool false, .bool false, .bool false, .int .u32 0, .int .i64 0, .int .i64 0, .int .i64 0, .int .i64 0] 27) none) K3)) _ _ (.inr KW2.out.size), KW2.out.size⟩))
    all_goals
      go_wp2
      go_meet
      exact ⟨_, rfl, rfl, hfin.out⟩
  case rest =>
    obtain ⟨V, rfl, rfl, VA, K, hV⟩ := hcut
    have G2 := grown_trans G0 K
    have HL2 : Hid (VAt wc B 23 #[.bool l.acfc, .bool l.pfc, .int .i64 l.mp]) := HL0.out.kept K
    rw [← HX.out] at VA
    obtain ⟨c0, c1, c2, c3, c4, c5, c6, c7, c8⟩ := VA.nine
    clear x0 x1 x2 G0 K VA HK HS hX9 hX1 HX hV HL0 c0 c1 c2 c3 c4 c6 c7
    cases hlk : lookX l b with
    | error er =>
      have h1 : E = er := by rw [← HV.out.2, hlk]; rfl
      have hz := look_err hlk
      subst h1
      clear HV hlk
      go_wp2_with fail
      refine (awake7_any _).mono ?_
      rintro e wz ⟨rfl, Kz⟩
      go_wp2
      go_ret
      exact ⟨rfl, grown_trans G2 Kz⟩
    | ok vv =>
      have h1 : v = vv := by rw [← HV.out.1, hlk]; rfl
      have h2e : E = 0 := by rw [← HV.out.2, hlk]; rfl
      subst h1 h2e
      clear HV
      by_cases h300 : 300 < b.length
      · have h3' : decide ((300 : Int) < (b.length : Int)) = true := decide_eq_true (by omega)
        clear hlk
        go_wp2_with fail
        refine (awake7_any _).mono ?_
        rintro e wz ⟨rfl, Kz⟩
        go_wp2
        go_ret
        exact ⟨rfl, grown_trans G2 Kz⟩
      have h3' : decide ((300 : Int) < (b.length : Int)) = false := decide_eq_false (by omega)
      have HOK : Hid (LookOk l b v) := look_ok hlk
      obtain ⟨N, hN⟩ : ∃ N : Nat, (if v.load ≠ 0 then v.load else v.pos) = N := ⟨_, rfl⟩
      have HSH : Hid (∀ (n : Nat) (u : Vw), n < N → lookX l (b.take n) = .ok u → n = 1 ∧ bg b 0 = 255) := fun n u h hu => look_short hlk (by rw [hN]; exact h) hu
      have hNb : N ≤ b.length := by
        rw [← hN]
        split
        · exact HOK.out.load
        · exact HOK.out.pos2
      have hb0 : 0 < b.length := by have := HOK.out.pos1; have := HOK.out.pos2; omega
      have hsel : (((v.load : Int) != 0) = true ∧ v.load = N) ∨ (((v.load : Int) != 0) = false ∧ v.pos = N) := by
        by_cases h0 : v.load = 0
        · rw [if_neg (by simpa using h0)] at hN
          exact .inr ⟨by rw [h0]; rfl, hN⟩
        · rw [if_pos h0] at hN
          exact .inl ⟨by rw [bne_iff_ne]; omega, hN⟩
      obtain ⟨bb, off, rfl, hcell⟩ := (H.out.keptNone G2).bgc hb0
      have HB0 : Hid (∀ i, i < b.length → wc.cell? ⟨bb, off + i, none⟩ = some (.int .u8 (bg b i : Int))) := hcell
      clear hlk hN hcell HOK
      go_upto_if 31 with fail
      go_cut [7] from 32 to 33 (fun s wx => s = .int .i64 (N : Int) ∧ wx = wc)
      case first =>
        rcases hsel with ⟨hs, hs2⟩ | ⟨hs, hs2⟩
        all_goals
          go_wp2
          go_meet
          exact ⟨by rw [← hs2], rfl⟩
      case rest =>
        obtain ⟨rfl, rfl⟩ := hcut
        have HR0 : Hid (VAt wc B 23 #[.bool l.acfc, .bool l.pfc, .int .i64 l.mp] ∧ w.grownBy wc none) := ⟨HL2.out, G2⟩
        clear hsel c5 c8 HL2 HB0 G2
        go_wp2
        go_loopw [8] (fun i wr => ∃ j : Nat, j ≤ N ∧ i = .int .i64 j ∧ Hid (VAt wr B 23 #[.bool l.acfc, .bool l.pfc, .int .i64 l.mp] ∧ w.grownBy wr none)) (fun i _ => N - (intOf i).toNat)
        case atStart => exact ⟨0, by omega, rfl, HR0⟩
        case round =>
          obtain ⟨j, hj, rfl, HR⟩ := hrel
          clear HR0
          clear wc
          by_cases hlt : j < N
          · have hl : (j : Int) < (N : Int) := by omega
            have hjc : (j : Int) ≤ (ca : Int) := by omega
            have hj0 : (0 : Int) ≤ (j : Int) := by omega
            have hjb : j ≤ b.length := by omega
            obtain ⟨bn, hbn⟩ : ∃ bn, b.take j = bn := ⟨_, rfl⟩
            have hbl : bn.length = j := by rw [← hbn, List.length_take]; omega
            have HCB : Hid (∀ W : World, Cells W (some ⟨bb, off, none⟩) b → Cells W (some ⟨bb, off, none⟩) bn) := fun W h => by
              rw [← hbn]
              exact ⟨fun hh => (by cases hh), fun ad had i hi => by
                have h1 := h.2 ad had i (by simp at hi; omega)
                rw [h1]
                simp⟩
            have HCPY : Hid (∀ W : World, Cells W (some ⟨bb, off, none⟩) b → Calls Try.prog 5 #[.slice (some ⟨bb, off, none⟩) j ca] W fun e w' => ∃ v, e = .returned v ∧ Owns w' W.heap.size v bn ∧ W.grownBy w' none) := fun W h => by
              have k := copy_any (some ⟨bb, off, none⟩) ca bn W (HCB.out W h) hc0 (by omega)
              rw [hbl] at k
              exact k
            obtain ⟨u, hu⟩ : ∃ u, exV Vw.zero (lookX l bn) = u := ⟨_, rfl⟩
            obtain ⟨F, hF⟩ : ∃ F, exE (lookX l bn) = F := ⟨_, rfl⟩
            obtain ⟨Y, hY⟩ : ∃ Y, vwA u = Y := ⟨_, rfl⟩
            have hX9 : Y.size = 9 := by rw [← hY]; rfl
            have hX1 : Y.all (·.oneCell') = true := by rw [← hY]; exact vwA_all u
            have HS : Hid ((Try.prog.info? 27).map (·.size) = some Y.size) := by
              show _ = _
              rw [hX9]; exact size27
            have HK : Hid (∀ (a : Option Addr) (ca : Nat) (W : World), Cells W a bn → Calls Try.prog 4 #[.agg #[.bool l.acfc, .bool l.pfc, .int .i64 l.mp], .slice a bn.length ca] W fun e w' => e = .returned (.tuple #[.agg Y, .int .i64 F]) ∧ W.grownBy w' none) := fun a ca W h => by
              have k := look_any l a ca bn W h (by omega)
              rw [hu, hF, hY] at k
              exact k
            have HFF : Hid (((F == 0) = false) ∨ (j = 1 ∧ bg b 0 = 255 ∧ (F == 0) = true)) := by
              show _ ∨ _
              cases hlk : lookX l bn with
              | error er =>
                left
                have : F = er := by rw [← hF, hlk]; rfl
                rw [this, beq_eq_false_iff_ne]
                exact bne_iff_ne.1 (look_err hlk)
              | ok uu =>
                right
                have hz : F = 0 := by rw [← hF, hlk]; rfl
                obtain ⟨s1, s2⟩ := HSH.out j uu hlt (by rw [hbn]; exact hlk)
                exact ⟨s1, s2, by rw [hz]; rfl⟩
            clear hu hF hY hbn
            have HBL : Hid (bn.length = j) := hbl
            have G4 := HR.out.2
            have x0 : wr.cell? ⟨B, 0, none⟩ = some (.bool l.acfc) := HR.out.1.cell 0
            have x1 : wr.cell? ⟨B, 1, none⟩ = some (.bool l.pfc) := HR.out.1.cell 1
            have x2 : wr.cell? ⟨B, 2, none⟩ = some (.int .i64 l.mp) := HR.out.1.cell 2
            clear hbl
            go_upto_region 10 with fail
            go_cut [9, 10] from 39 to 47 (fun s e wx => ∃ V, s = .pointer (some ⟨V, 0, none⟩) ∧ e = .int .i64 F ∧ VAt wx V 27 Y ∧ wr.grownBy wx none ∧ wr.heap.size ≤ V)
            case first =>
              have HQ1 : Hid (Cells wr.drew (some ⟨bb, off, none⟩) b) := H.out.keptNone (grown_trans G4 (grown_drewN _ 1 none))
              have HQ2 : Hid (Cells (wr.alloc (.cells #[.int .u32 0, .bool false, .bool false, .bool false, .int .u32 0, .int .i64 0, .int .i64 0, .int .i64 0, .int .i64 0] 27)).drew (some ⟨bb, off, none⟩) b) := H.out.keptNone (grown_trans G4 (grown_trans (World.grownBy_alloc wr (.cells #[.int .u32 0, .bool false, .bool false, .bool false, .int .u32 0, .int .i64 0, .int .i64 0, .int .i64 0, .int .i64 0] 27) none) (grown_drewN _ 1 none)))
              have zx0 := (World.grownBy_alloc wr (.cells #[.int .u32 0, .bool false, .bool false, .bool false, .int .u32 0, .int .i64 0, .int .i64 0, .int .i64 0, .int .i64 0] 27) none).cell x0 (by simp)
              have zx1 := (World.grownBy_alloc wr (.cells #[.int .u32 0, .bool false, .bool false, .bool false, .int .u32 0, .int .i64 0, .int .i64 0, .int .i64 0, .int .i64 0] 27) none).cell x1 (by simp)
              have zx2 := (World.grownBy_alloc wr (.cells #[.int .u32 0, .bool false, .bool false, .bool false, .int .u32 0, .int .i64 0, .int .i64 0, .int .i64 0, .int .i64 0] 27) none).cell x2 (by simp)
              go_region_with (first
                | (go_at_call 5; refine (HCPY.out _ ?_).mono ?_; (with_reducible exact HQ1.out); rintro e w2 ⟨v2, rfl, O2, K2⟩; have KW2 : Hid (wr.grownBy w2 none) := (by first | exact K2 | exact grown_trans (grown_drewN wr 1 none) K2); have x20 := KW2.out.cell x0 (by simp); have y20 := (World.grownBy_alloc w2 (.cells #[.int .u32 0, .bool false, .bool false, .bool false, .int .u32 0, .int .i64 0, .int .i64 0, .int .i64 0, .int .i64 0] 27) none).cell x20 (by simp); have x21 := KW2.out.cell x1 (by simp); have y21 := (World.grownBy_alloc w2 (.cells #[.int .u32 0, .bool false, .bool false, .bool false, .int .u32 0, .int .i64 0, .int .i64 0, .int .i64 0, .int .i64 0] 27) none).cell x21 (by simp); have x22 := KW2.out.cell x2 (by simp); have y22 := (World.grownBy_alloc w2 (.cells #[.int .u32 0, .bool false, .bool false, .bool false, .int .u32 0, .int .i64 0, .int .i64 0, .int .i64 0, .int .i64 0] 27) none).cell x22 (by simp); obtain ⟨ao2, cap2, rfl, C2, -⟩ := O2.shape; have HC2 : Hid (Cells w2 ao2 bn) := C2; have HC2Z : Hid (Cells (w2.alloc (.cells #[.int .u32 0, .bool false, .bool false, .bool false, .int .u32 0, .int .i64 0, .int .i64 0, .int .i64 0, .int .i64 0] 27)) ao2 bn) := C2.keptNone (World.grownBy_alloc _ _ _))
                | (go_at_call 5; refine (HCPY.out _ ?_).mono ?_; (with_reducible exact HQ2.out); rintro e w2 ⟨v2, rfl, O2, K2⟩; have U2 : Hid (VAt w2 wr.heap.size 27 (vwA Vw.zero)) := ((VAt.alloc wr 27 (vwA Vw.zero)).kept (grown_drewN _ 1 none)).kept K2; have KW2 : Hid (wr.grownBy w2 none) := grown_trans (grown_trans (World.grownBy_alloc wr (.cells #[.int .u32 0, .bool false, .bool false, .bool false, .int .u32 0, .int .i64 0, .int .i64 0, .int .i64 0, .int .i64 0] 27) none) (grown_drewN _ 1 none)) K2; have x20 := KW2.out.cell x0 (by simp); have y20 := (World.grownBy_alloc w2 (.cells #[.int .u32 0, .bool false, .bool false, .bool false, .int .u32 0, .int .i64 0, .int .i64 0, .int .i64 0, .int .i64 0] 27) none).cell x20 (by simp); have x21 := KW2.out.cell x1 (by simp); have y21 := (World.grownBy_alloc w2 (.cells #[.int .u32 0, .bool false, .bool false, .bool false, .int .u32 0, .int .i64 0, .int .i64 0, .int .i64 0, .int .i64 0] 27) none).cell x21 (by simp); have x22 := KW2.out.cell x2 (by simp); have y22 := (World.grownBy_alloc w2 (.cells #[.int .u32 0, .bool false, .bool false, .bool false, .int .u32 0, .int .i64 0, .int .i64 0, .int .i64 0, .int .i64 0] 27) none).cell x22 (by simp); obtain ⟨ao2, cap2, rfl, C2, -⟩ := O2.shape; have HC2 : Hid (Cells w2 ao2 bn) := C2; have HC2Z : Hid (Cells (w2.alloc (.cells #[.int .u32 0, .bool false, .bool false, .bool false, .int .u32 0, .int .i64 0, .int .i64 0, .int .i64 0, .int .i64 0] 27)) ao2 bn) := C2.keptNone (World.grownBy_alloc _ _ _))
                | (go_at_call 4; refine (HK.out _ _ _ ?_).mono ?_; (with_reducible exact HC2.out); rintro e w3 ⟨rfl, K3⟩; have U3 := U2.out.kept K3; have hs3 : (storeCells ⟨wr.heap.size, 0, none⟩ Y.toList).run Try.prog w3 = .ok () (w3.setRow wr.heap.size Y) := storeCells_row U3 HS.out hX9.symm hX1; have hfin : Hid (VAt (w3.setRow wr.heap.size Y) wr.heap.size 27 Y ∧ wr.grownBy (w3.setRow wr.heap.size Y) none ∧ wr.heap.size ≤ wr.heap.size) := ⟨U3.setRow _, vgrown_setRow (grown_trans KW2.out K3) _ _ (.inr (Nat.le_refl _)), Nat.le_refl _⟩)
                | (go_at_call 4; refine (HK.out _ _ _ ?_).mono ?_; (with_reducible exact HC2.out); rintro e w3 ⟨rfl, K3⟩; have hs3 : (storeCells ⟨w3.heap.size, 0, none⟩ Y.toList).run Try.prog (w3.alloc (.cells #[.int .u32 0, .bool false, .bool false, .bool false, .int .u32 0, .int .i64 0, .int .i64 0, .int .i64 0, .int .i64 0] 27)) = .ok () ((w3.alloc (.cells #[.int .u32 0, .bool false, .bool false, .bool false, .int .u32 0, .int .i64 0, .int .i64 0, .int .i64 0, .int .i64 0] 27)).setRow w3.heap.size Y) := storeCells_row (VAt.alloc w3 27 (vwA Vw.zero)) HS.out hX9.symm hX1; have hfin : Hid (VAt ((w3.alloc (.cells #[.int .u32 0, .bool false, .bool false, .bool false, .int .u32 0, .int .i64 0, .int .i64 0, .int .i64 0, .int .i64 0] 27)).setRow w3.heap.size Y) w3.heap.size 27 Y ∧ wr.grownBy ((w3.alloc (.cells #[.int .u32 0, .bool false, .bool false, .bool false, .int .u32 0, .int .i64 0, .int .i64 0, .int .i64 0, .int .i64 0] 27)).setRow w3.heap.size Y) none ∧ wr.heap.size ≤ w3.heap.size) := ⟨(VAt.alloc w3 27 (vwA Vw.zero)).setRow _, vgrown_setRow (grown_trans (grown_trans KW2.out K3) (World.grownBy_alloc _ _ _)) _ _ (.inr (grown_trans KW2.out K3).size), (grown_trans KW2.out K3).size⟩)
                | (go_at_call 4; refine (HK.out _ _ _ ?_).mono ?_; (with_reducible exact HC2Z.out); rintro e w3 ⟨rfl, K3⟩; have U3 : VAt w3 w2.heap.size 27 (vwA Vw.zero) := (VAt.alloc w2 _ _).kept K3; have hs3 : (storeCells ⟨w2.heap.size, 0, none⟩ Y.toList).run Try.prog w3 = .ok () (w3.setRow w2.heap.size Y) := storeCells_row U3 HS.out hX9.symm hX1; have hfin : Hid (VAt (w3.setRow w2.heap.size Y) w2.heap.size 27 Y ∧ wr.grownBy (w3.setRow w2.heap.size Y) none ∧ wr.heap.size ≤ w2.heap.size) := ⟨U3.setRow _, vgrown_setRow (grown_trans KW2.out (grown_trans (World.grownBy_alloc w2 (.cells #[.int .u32 0, .bool false, .bool false, .bool false, .int .u32 0, .int .i64 0, .int .i64 0, .int .i64 0, .int .i64 0] 27) none) K3)) _ _ (.inr KW2.out.size), KW2.out.size⟩))
              all_goals
                go_wp2
                go_meet
                exact ⟨_, rfl, rfl, hfin.out⟩
            case rest =>
              obtain ⟨V2, rfl, rfl, VA2, K2, hV2⟩ := hcut
              have G5 := grown_trans G4 K2
              have HR5 : Hid (VAt wc B 23 #[.bool l.acfc, .bool l.pfc, .int .i64 l.mp] ∧ w.grownBy wc none) := ⟨HR.out.1.kept K2, G5⟩
              have hc1 : wc.cell? ⟨bb, off, none⟩ = some (.int .u8 (bg b 0 : Int)) := by
                obtain ⟨bb', off', hh, hcell⟩ := (H.out.keptNone G5).bgc hb0
                simp only [Option.some.injEq, Addr.mk.injEq, and_true] at hh
                obtain ⟨rfl, rfl⟩ := hh
                exact hcell 0 hb0
              clear VA2 K2 hV2 x0 x1 x2 HK HS hX9 hX1 HCPY HCB G4 G5 HR HBL
              rcases HFF.out with hf | ⟨h1, h255, hf⟩
              · clear HFF
                by_cases h1 : j = 1
                · have h1' : ((j : Int) == 1) = true := by rw [h1]; rfl
                  have HJ1 : Hid (j = 1) := h1
                  clear h1
                  go_wp2
                  go_roundw
                  case rel => exact ⟨j + 1, by omega, by go_num, HR5⟩
                  case measure => simp [intOf]; omega
                · have h1' : ((j : Int) == 1) = false := by rw [beq_eq_false_iff_ne]; omega
                  go_wp2
                  go_roundw
                  case rel => exact ⟨j + 1, by omega, by go_num, HR5⟩
                  case measure => simp [intOf]; omega
              · have h1' : ((j : Int) == 1) = true := by rw [h1]; rfl
                rw [h255] at hc1
                clear HFF h1 h255
                go_wp2
                go_roundw
                case rel => exact ⟨j + 1, by omega, by go_num, HR5⟩
                case measure => simp [intOf]; omega
          · obtain rfl : j = N := by omega
            have G := HR.out.2
            go_wp2_with fail
            refine (awake7_any _).mono ?_
            rintro e wz ⟨rfl, Kz⟩
            go_wp2
            go_ret
            exact ⟨rfl, grown_trans G Kz⟩

set_option maxRecDepth 100000 in
theorem lifted (os : Os) (started : os.Started) (H : Type) (enc : TypeId × Value → H) :
    ReturnsInHanded {} Try.checked os 3 .any (Rows.frameShortSpec.pre6 enc Try.prog Try.f3 Rows.frameShortRow.domain false) (Rows.frameShortSpec.post enc Try.prog Try.f3 false true false false) := by
  refine returnsInHanded_of_change_sized (C := Try.checked) own started (by kernel_rfl) Try.func3
    (ChangeSpec.witness6 (enc := enc) (C := Try.checked) false ⟨#[], #[.agg #[.bool false, .bool false, .int .i64 0], .slice none 0 0], []⟩ 8 (by kernel_rfl) (by kernel_rfl) (by kernel_rfl) (by kernel_rfl)) ?_
  intro W base args ds gs before hval0 hW hcnd hsz0 _
  have hsz : (DataW.weightsEach Try.prog (Try.f3.params.toList ++ Rows.frameShortSpec.plain.varTypes Try.prog) (ds ++ gs)).all (· ≤ reachBytes) = true := hsz0
  have hval : ∀ (j : Nat) t v, Try.f3.params[j]? = some t → args[j]? = some v → Value.okWide Try.prog W .any base t v := hval0
  have hW' := hW
  obtain ⟨p, q, hA0, hV, rfl, hfz, hnd⟩ := hW
  have hA : DataW.TrodAll enc Try.prog W 0 (fun _ => true) true Try.f3.params.toList args.toList ds p := hA0
  rw [Try.params3] at hA hval hsz
  obtain ⟨v0, vs0, d0, ds0, p0, q0, hargs, rfl, rfl, h0, r0⟩ := trodAll_cons hA
  obtain ⟨v1, vs1, d1, ds1, p1, q1, rfl, rfl, rfl, h1, r1⟩ := trodAll_cons r0
  obtain ⟨rfl, rfl, rfl⟩ := trodAll_nil r1
  obtain rfl : args = #[v0, v1] := by cases args; simp_all
  obtain ⟨rfl, rfl⟩ := trodVars_none hV
  have k0 := h0
  have lt0 : ∀ x ∈ p0, x.block < W.heap.size := by obtain ⟨m, hm⟩ := k0; exact DataW.trod_lt m _ _ _ hm
  obtain ⟨x0, rfl⟩ := open_link h0
  obtain ⟨a1, len1, cap1, rfl⟩ := okWide_slice Try.underlying24 (hval 1 24 v1 rfl rfl)
  have k1 := h1
  have lt1 : ∀ x ∈ p1, x.block < W.heap.size := by obtain ⟨m, hm⟩ := k1; exact DataW.trod_lt m _ _ _ hm
  have hcp1 := open_cap Try.underlying24 Try.underlying5 (by kernel_rfl) h1
  obtain ⟨xs1, rfl, hcells1, hnil1, hdat1⟩ := open_bytes Try.underlying24 Try.underlying5 (by kernel_rfl) h1
  have hlen1 : xs1.length * 1 ≤ 140737488351232 := by
    rcases hdat1 with ⟨_, rfl⟩ | ⟨elems, spare, rfl, hle⟩
    · simp
    · have := sized_slice hsz (j := 1) (t := 24) (e := 5) rfl rfl Try.underlying24
      rw [bytes5] at this
      unfold reachBytes at this
      omega
  clear hA0 hval0
  refine (walk x0 a1 cap1 xs1 W hcells1 hnil1 (by omega) hcp1).mono fun e W' ⟨he, hg⟩ => ?_
  subst he
  have bel : Below W.heap.size W W' := (Below.refl _ _).grown hg (Nat.le_refl _) (by simp)
  exact ⟨_, rfl, _, _, _, [], _, [], hW', trodAll_mk1 (shut_bool Try.underlying4 _), (trodAll_cons_mk (Below.trod laidOut (by kernel_rfl) (of_decide_eq_true (by kernel_rfl)) k0 bel lt0) (trodAll_cons_mk (Below.trod laidOut (by kernel_rfl) (of_decide_eq_true (by kernel_rfl)) k1 bel lt1) trodAll_mk0)), rfl, bel.frame _, fun h => by cases h⟩

theorem over : Rows.FrameShortSaid :=
  OpenClaim.holds_of_wide 3 Try.f3 rfl rfl rfl rfl rfl rfl rfl ⟨rfl, rfl, rfl, rfl, rfl⟩ rfl rfl rfl rfl rfl (by kernel_rfl) Try.func3 (by kernel_rfl)
    (of_decide_eq_true (by kernel_rfl)) (by unfold Func.isWrapper; first | (rw [if_pos (by decide +kernel)]; kernel_rfl) | (rw [if_neg (by decide +kernel)]; exact ⟨rfl, rfl⟩))
    (fun os started H enc _ => lifted os started H enc)

end frameShort

theorem frameShort_holds : Rows.FrameShortSaid := frameShort.over
#print axioms frameShort_holds
end Go.Proofs.Ytjjccbegljkkfab
