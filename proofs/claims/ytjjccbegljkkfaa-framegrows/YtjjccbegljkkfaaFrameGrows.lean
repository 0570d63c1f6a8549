/-
  For every link and every two lists of bytes (their capacities at most 2^47 - 4096 bytes, as the form itself says of each argument) riddlelaw7.FrameGrows returns true and leaves what was there as it was: no condition of ours.
-/
import Derived.Test.YtjjccbegljkkfaaOpenL
import Derived.Test.YtjjccbegljkkfaaFrameK
import Derived.Test.YtjjccbegljkkfaaJoins2
import Derived.Deep.DeepCutAuto
namespace Go.Proofs.Ytjjccbegljkkfaa
open Go.ChangeShapes Go.WideShapes Go.ChangeAt Go.RowKit
open Go.ChangeMaps (open_string shut_string)
set_option maxRecDepth 100000
namespace frameGrows

set_option maxRecDepth 100000 in
set_option maxHeartbeats 2000000 in
theorem walk (l : Lk) (a : Option Addr) (ca : Nat) (b : List UInt8) (c : Option Addr) (cc : Nat) (more : List UInt8) (w : World) (ha : Cells w a b) (hc0 : a = none → ca = 0) (hn : b.length ≤ 140737488351232) (hc : Cells w c more) (hd0 : c = none → cc = 0) (hm : more.length ≤ 140737488351232) :
    Calls Try.prog 7 #[.agg (lkA l), .slice a b.length ca, .slice c more.length cc] w fun e w' => e = .returned (.bool true) ∧ w.grownBy w' none := by
  have H : Hid (Cells w a b) := ha
  have H2 : Hid (Cells w c more) := hc
  obtain ⟨v, hv⟩ : ∃ v, exV Vw.zero (lookX l b) = v := ⟨_, rfl⟩
  obtain ⟨E, hE⟩ : ∃ E, exE (lookX l b) = E := ⟨_, rfl⟩
  obtain ⟨X, hX⟩ : ∃ X, vwA v = X := ⟨_, rfl⟩
  have hX9 : X.size = 9 := by rw [← hX]; rfl
  have hX1 : X.all (·.oneCell') = true := by rw [← hX]; exact vwA_all v
  have HS : Hid ((Try.prog.info? 27).map (·.size) = some X.size) := by rw [hX9]; exact size27
  have HX : Hid (vwA v = X) := hX
  have HK : Hid (∀ (a : Option Addr) (ca : Nat) (W : World), Cells W a b → Calls Try.prog 11 #[.agg #[.bool l.acfc, .bool l.pfc, .int .i64 l.mp], .slice a b.length ca] W fun e w' => e = .returned (.tuple #[.agg X, .int .i64 E]) ∧ W.grownBy w' none) := fun a ca W h => by
    have k := look_any l a ca b W h (by omega)
    rw [hv, hE, hX] at k
    exact k
  have HV : Hid (exV Vw.zero (lookX l b) = v ∧ exE (lookX l b) = E) := ⟨hv, hE⟩
  have L0 := VAt.alloc w 23 (lkA l)
  have G0 : w.grownBy (w.alloc (.cells (lkA l) 23)) none := World.grownBy_alloc _ _ _
  clear hv hE hX ha hc
  simp only [lkA] at L0 G0 ⊢
  go_enter Try.func7, Try.ntmps7
  go_upto_region 1 with fail
  generalize w.alloc (.cells #[.bool l.acfc, .bool l.pfc, .int .i64 l.mp] 23) = w1 at *
  generalize w.heap.size = B at *
  have x0 : w1.cell? ⟨B, 0, none⟩ = some (.bool l.acfc) := L0.cell 0
  have x1 : w1.cell? ⟨B, 1, none⟩ = some (.bool l.pfc) := L0.cell 1
  have x2 : w1.cell? ⟨B, 2, none⟩ = some (.int .i64 l.mp) := L0.cell 2
  clear L0
  by_cases h2 : b.length < 2
  · have h2' : decide ((b.length : Int) < 2) = true := decide_eq_true (by omega)
    go_wp2_with fail
    refine (awake7_any _).mono ?_
    rintro e wz ⟨rfl, Kz⟩
    go_wp2
    go_ret
    exact ⟨rfl, grown_trans G0 Kz⟩
  have h2' : decide ((b.length : Int) < 2) = false := decide_eq_false (by omega)
  by_cases h3 : 65535 < b.length + more.length
  · have h3' : decide ((65535 : Int) < (b.length : Int) + (more.length : Int)) = true := decide_eq_true (by omega)
    go_wp2_with fail
    refine (awake7_any _).mono ?_
    rintro e wz ⟨rfl, Kz⟩
    go_wp2
    go_ret
    exact ⟨rfl, grown_trans G0 Kz⟩
  have h3' : decide ((65535 : Int) < (b.length : Int) + (more.length : Int)) = false := decide_eq_false (by omega)
  go_upto_region 3 with fail
  go_cut [7, 8] from 23 to 29 (fun s e wx => ∃ V, s = .pointer (some ⟨V, 0, none⟩) ∧ e = .int .i64 E ∧ VAt wx V 27 X ∧ w1.grownBy wx none ∧ w1.heap.size ≤ V)
  case first =>
    have HQ1 : Hid (Cells w1.drew a b) := H.out.keptNone (grown_trans G0 (grown_drewN _ 1 none))
    have HQ2 : Hid (Cells (w1.alloc (.cells #[.int .u32 0, .bool false, .bool false, .bool false, .int .u32 0, .int .i64 0, .int .i64 0, .int .i64 0, .int .i64 0] 27)).drew a b) := H.out.keptNone (grown_trans G0 (grown_trans (World.grownBy_alloc w1 (.cells #[.int .u32 0, .bool false, .bool false, .bool false, .int .u32 0, .int .i64 0, .int .i64 0, .int .i64 0, .int .i64 0] 27) none) (grown_drewN _ 1 none)))
    have zx0 := (World.grownBy_alloc w1 (.cells #[.int .u32 0, .bool false, .bool false, .bool false, .int .u32 0, .int .i64 0, .int .i64 0, .int .i64 0, .int .i64 0] 27) none).cell x0 (by simp)
    have zx1 := (World.grownBy_alloc w1 (.cells #[.int .u32 0, .bool false, .bool false, .bool false, .int .u32 0, .int .i64 0, .int .i64 0, .int .i64 0, .int .i64 0] 27) none).cell x1 (by simp)
    have zx2 := (World.grownBy_alloc w1 (.cells #[.int .u32 0, .bool false, .bool false, .bool false, .int .u32 0, .int .i64 0, .int .i64 0, .int .i64 0, .int .i64 0] 27) none).cell x2 (by simp)
    go_region_with (first
      | (go_at_call 16; refine (copy_any a ca b _ ?_ hc0 (by omega)).mono ?_; (with_reducible exact HQ1.out); rintro e w2 ⟨v2, rfl, O2, K2⟩; have KW2 : Hid (w1.grownBy w2 none) := (by first | exact K2 | exact grown_trans (grown_drewN w1 1 none) K2); have x20 := KW2.out.cell x0 (by simp); have y20 := (World.grownBy_alloc w2 (.cells #[.int .u32 0, .bool false, .bool false, .bool false, .int .u32 0, .int .i64 0, .int .i64 0, .int .i64 0, .int .i64 0] 27) none).cell x20 (by simp); have x21 := KW2.out.cell x1 (by simp); have y21 := (World.grownBy_alloc w2 (.cells #[.int .u32 0, .bool false, .bool false, .bool false, .int .u32 0, .int .i64 0, .int .i64 0, .int .i64 0, .int .i64 0] 27) none).cell x21 (by simp); have x22 := KW2.out.cell x2 (by simp); have y22 := (World.grownBy_alloc w2 (.cells #[.int .u32 0, .bool false, .bool false, .bool false, .int .u32 0, .int .i64 0, .int .i64 0, .int .i64 0, .int .i64 0] 27) none).cell x22 (by simp); obtain ⟨ao2, cap2, rfl, C2, -⟩ := O2.shape; have HC2 : Hid (Cells w2 ao2 b) := C2; have HC2Z : Hid (Cells (w2.alloc (.cells #[.int .u32 0, .bool false, .bool false, .bool false, .int .u32 0, .int .i64 0, .int .i64 0, .int .i64 0, .int .i64 0] 27)) ao2 b) := C2.keptNone (World.grownBy_alloc _ _ _))
      | (go_at_call 16; refine (copy_any a ca b _ ?_ hc0 (by omega)).mono ?_; (with_reducible exact HQ2.out); rintro e w2 ⟨v2, rfl, O2, K2⟩; have U2 : Hid (VAt w2 w1.heap.size 27 (vwA Vw.zero)) := ((VAt.alloc w1 27 (vwA Vw.zero)).kept (grown_drewN _ 1 none)).kept K2; have KW2 : Hid (w1.grownBy w2 none) := grown_trans (grown_trans (World.grownBy_alloc w1 (.cells #[.int .u32 0, .bool false, .bool false, .bool false, .int .u32 0, .int .i64 0, .int .i64 0, .int .i64 0, .int .i64 0] 27) none) (grown_drewN _ 1 none)) K2; have x20 := KW2.out.cell x0 (by simp); have y20 := (World.grownBy_alloc w2 (.cells #[.int .u32 0, .bool false, .bool false, .bool false, .int .u32 0, .int .i64 0, .int .i64 0, .int .i64 0, .int .i64 0] 27) none).cell x20 (by simp); have x21 := KW2.out.cell x1 (by simp); have y21 := (World.grownBy_alloc w2 (.cells #[.int .u32 0, .bool false, .bool false, .bool false, .int .u32 0, .int .i64 0, .int .i64 0, .int .i64 0, .int .i64 0] 27) none).cell x21 (by simp); have x22 := KW2.out.cell x2 (by simp); have y22 := (World.grownBy_alloc w2 (.cells #[.int .u32 0, .bool false, .bool false, .bool false, .int .u32 0, .int .i64 0, .int .i64 0, .int .i64 0, .int .i64 0] 27) none).cell x22 (by simp); obtain ⟨ao2, cap2, rfl, C2, -⟩ := O2.shape; have HC2 : Hid (Cells w2 ao2 b) := C2; have HC2Z : Hid (Cells (w2.alloc (.cells #[.int .u32 0, .bool false, .bool false, .bool false, .int .u32 0, .int .i64 0, .int .i64 0, .int .i64 0, .int .i64 0] 27)) ao2 b) := C2.keptNone (World.grownBy_alloc _ _ _))
      | (go_at_call 11; refine (HK.out _ _ _ ?_).mono ?_; (with_reducible exact HC2.out); rintro e w3 ⟨rfl, K3⟩; have U3 := U2.out.kept K3; have hs3 : (storeCells ⟨w1.heap.size, 0, none⟩ X.toList).run Try.prog w3 = .ok () (w3.setRow w1.heap.size X) := storeCells_row U3 HS.out hX9.symm hX1; have hfin : Hid (VAt (w3.setRow w1.heap.size X) w1.heap.size 27 X ∧ w1.grownBy (w3.setRow w1.heap.size X) none ∧ w1.heap.size ≤ w1.heap.size) := ⟨U3.setRow _, vgrown_setRow (grown_trans KW2.out K3) _ _ (.inr (Nat.le_refl _)), Nat.le_refl _⟩)
      | (go_at_call 11; refine (HK.out _ _ _ ?_).mono ?_; (with_reducible exact HC2.out); rintro e w3 ⟨rfl, K3⟩; have hs3 : (storeCells ⟨w3.heap.size, 0, none⟩ X.toList).run Try.prog (w3.alloc (.cells #[.int .u32 0, .bool false, .bool false, .bool false, .int .u32 0, .int .i64 0, .int .i64 0, .int .i64 0, .int .i64 0] 27)) = .ok () ((w3.alloc (.cells #[.int .u32 0, .bool false, .bool false, .bool false, .int .u32 0, .int .i64 0, .int .i64 0, .int .i64 0, .int .i64 0] 27)).setRow w3.heap.size X) := storeCells_row (VAt.alloc w3 27 (vwA Vw.zero)) HS.out hX9.symm hX1; have hfin : Hid (VAt ((w3.alloc (.cells #[.int .u32 0, .bool false, .bool false, .bool false, .int .u32 0, .int .i64 0, .int .i64 0, .int .i64 0, .int .i64 0] 27)).setRow w3.heap.size X) w3.heap.size 27 X ∧ w1.grownBy ((w3.alloc (.cells #[.int .u32 0, .bool false, .bool false, .bool false, .int .u32 0, .int .i64 0, .int .i64 0, .int .i64 0, .int .i64 0] 27)).setRow w3.heap.size X) none ∧ w1.heap.size ≤ w3.heap.size) := ⟨(VAt.alloc w3 27 (vwA Vw.zero)).setRow _, vgrown_setRow (grown_trans (grown_trans KW2.out K3) (World.grownBy_alloc _ _ _)) _ _ (.inr (grown_trans KW2.out K3).size), (grown_trans KW2.out K3).size⟩)
      | (go_at_call 11; refine (HK.out _ _ _ ?_).mono ?_; (with_reducible exact HC2Z.out); rintro e w3 ⟨rfl, K3⟩; have U3 : VAt w3 w2.heap.size 27 (vwA Vw.zero) := (VAt.alloc w2 _ _).kept K3; have hs3 : (storeCells ⟨w2.heap.size, 0, none⟩ X.toList).run Try.prog w3 = .ok () (w3.setRow w2.heap.size X) := storeCells_row U3 HS.out hX9.symm hX1; have hfin : Hid (VAt (w3.setRow w2.heap.size X) w2.heap.size 27 X ∧ w1.grownBy (w3.setRow w2.heap.size X) none ∧ w1.heap.size ≤ w2.heap.size) := ⟨U3.setRow _, vgrown_setRow (grown_trans KW2.out (grown_trans (World.grownBy_alloc w2 (.cells #[.int .u32 0, .bool false, .bool false, .bool false, .int .u32 0, .int .i64 0, .int .i64 0, .int .i64 0, .int .i64 0] 27) none) K3)) _ _ (.inr KW2.out.size), KW2.out.size⟩))
    all_goals
      go_wp2
      go_meet
      exact ⟨_, rfl, rfl, hfin.out⟩
  case rest =>
    obtain ⟨V, rfl, rfl, VA, K, hV⟩ := hcut
    have G2 := grown_trans G0 K
    have y0 := K.cell x0 (by simp)
    have y1 := K.cell x1 (by simp)
    have y2 := K.cell x2 (by simp)
    clear x0 x1 x2 G0 K HK HS hX9 hX1 h2' h3' hV
    cases hlk : lookX l b with
    | error er =>
      have h1 : E = er := by rw [← HV.out.2, hlk]; rfl
      have hz := look_err hlk
      subst h1
      clear HV hlk VA
      go_wp2_with fail
      refine (awake7_any _).mono ?_
      rintro e wz ⟨rfl, Kz⟩
      go_wp2
      go_ret
      exact ⟨rfl, grown_trans G2 Kz⟩
    | ok vv =>
      have h1 : v = vv := by rw [← HV.out.1, hlk]; rfl
      have h2e : E = 0 := by rw [← HV.out.2, hlk]; rfl
      subst h1 h2e
      have hgr := look_grows (c := more) hlk (by omega) (by simp; omega)
      obtain ⟨bm, hbm⟩ : ∃ bm, b ++ more = bm := ⟨_, rfl⟩
      have hbl : bm.length ≤ 65535 := by rw [← hbm]; simp; omega
      rw [hbm] at hgr
      clear HV hlk
      obtain ⟨x0, x1, x2⟩ := And.intro y0 (And.intro y1 y2)
      clear y0 y1 y2
      have HX2 : Hid (vwA v = X) := HX
      have hY9 : X.size = 9 := by rw [← HX.out]; rfl
      have hY1 : X.all (·.oneCell') = true := by rw [← HX.out]; exact vwA_all v
      have HS2 : Hid ((Try.prog.info? 27).map (·.size) = some X.size) := by
        show _ = _
        rw [hY9]; exact size27
      have HK2 : Hid (∀ (a : Option Addr) (ca : Nat) (W : World), Cells W a bm → Calls Try.prog 11 #[.agg #[.bool l.acfc, .bool l.pfc, .int .i64 l.mp], .slice a bm.length ca] W fun e w' => e = .returned (.tuple #[.agg X, .int .i64 0]) ∧ W.grownBy w' none) := fun a ca W h => by
        have k := look_any l a ca bm W h (by omega)
        rw [hgr] at k
        simp only [exV, exE, HX.out] at k
        exact k
      have HJ : Hid (∀ (W : World) (P : Nat), wc.grownBy W none → CV W (some ⟨P, 0, none⟩) [.slice a b.length ca, .slice c more.length cc] → Calls Try.prog 21 #[.slice (some ⟨P, 0, none⟩) 2 2] W fun e w' => ∃ v, e = .returned v ∧ Owns w' W.heap.size v bm ∧ W.grownBy w' none) := fun W P K hcv => by
        have k := join_any (some ⟨P, 0, none⟩) 2 [⟨a, ca, b⟩, ⟨c, cc, more⟩] W hcv (by
          intro x hx
          simp only [List.mem_cons, List.not_mem_nil, or_false] at hx
          rcases hx with rfl | rfl
          · exact ⟨H.out.keptNone (grown_trans G2 K), hc0⟩
          · exact ⟨H2.out.keptNone (grown_trans G2 K), hd0⟩) (by simp) (by simp [joinS]; omega)
        have e : joinS [⟨a, ca, b⟩, ⟨c, cc, more⟩] = bm := by rw [← hbm]; simp [joinS]
        rw [e] at k
        exact k
      clear hgr hbm
      go_upto_region 6 with fail
      go_cut [9, 10] from 33 to 41 (fun s e wx => ∃ V, s = .pointer (some ⟨V, 0, none⟩) ∧ e = .int .i64 0 ∧ VAt wx V 27 X ∧ wc.grownBy wx none ∧ wc.heap.size ≤ V)
      case first =>
        have GP := World.grownBy_alloc wc (.cells #[.slice a b.length ca, .slice c more.length cc] 24) none
        have GZ := World.grownBy_alloc wc (.cells #[.int .u32 0, .bool false, .bool false, .bool false, .int .u32 0, .int .i64 0, .int .i64 0, .int .i64 0, .int .i64 0] 27) none
        have GPZ := grown_trans GP (World.grownBy_alloc (wc.alloc (.cells #[.slice a b.length ca, .slice c more.length cc] 24)) (.cells #[.int .u32 0, .bool false, .bool false, .bool false, .int .u32 0, .int .i64 0, .int .i64 0, .int .i64 0, .int .i64 0] 27) none)
        have GZP := grown_trans GZ (World.grownBy_alloc (wc.alloc (.cells #[.int .u32 0, .bool false, .bool false, .bool false, .int .u32 0, .int .i64 0, .int .i64 0, .int .i64 0, .int .i64 0] 27)) (.cells #[.slice a b.length ca, .slice c more.length cc] 24) none)
        have CP := cv_lit wc 24 [.slice a b.length ca, .slice c more.length cc]
        have CPZ := CP.keptNone (World.grownBy_alloc (wc.alloc (.cells #[.slice a b.length ca, .slice c more.length cc] 24)) (.cells #[.int .u32 0, .bool false, .bool false, .bool false, .int .u32 0, .int .i64 0, .int .i64 0, .int .i64 0, .int .i64 0] 27) none)
        have CZP := cv_lit (wc.alloc (.cells #[.int .u32 0, .bool false, .bool false, .bool false, .int .u32 0, .int .i64 0, .int .i64 0, .int .i64 0, .int .i64 0] 27)) 24 [.slice a b.length ca, .slice c more.length cc]
        have UPZ := VAt.alloc (wc.alloc (.cells #[.slice a b.length ca, .slice c more.length cc] 24)) 27 (vwA Vw.zero)
        have UZP := (VAt.alloc wc 27 (vwA Vw.zero)).kept (World.grownBy_alloc (wc.alloc (.cells #[.int .u32 0, .bool false, .bool false, .bool false, .int .u32 0, .int .i64 0, .int .i64 0, .int .i64 0, .int .i64 0] 27)) (.cells #[.slice a b.length ca, .slice c more.length cc] 24) none)
        rw [show (wc.alloc (.cells #[.int .u32 0, .bool false, .bool false, .bool false, .int .u32 0, .int .i64 0, .int .i64 0, .int .i64 0, .int .i64 0] 27)).heap.size = wc.heap.size + 1 by simp] at CZP
        rw [show (wc.alloc (.cells #[.slice a b.length ca, .slice c more.length cc] 24)).heap.size = wc.heap.size + 1 by simp] at UPZ
        have HCP : Hid (CV (wc.alloc (.cells #[.slice a b.length ca, .slice c more.length cc] 24)) (some ⟨wc.heap.size, 0, none⟩) [.slice a b.length ca, .slice c more.length cc]) := CP
        have HCPZ : Hid (CV ((wc.alloc (.cells #[.slice a b.length ca, .slice c more.length cc] 24)).alloc (.cells #[.int .u32 0, .bool false, .bool false, .bool false, .int .u32 0, .int .i64 0, .int .i64 0, .int .i64 0, .int .i64 0] 27)) (some ⟨wc.heap.size, 0, none⟩) [.slice a b.length ca, .slice c more.length cc]) := CPZ
        have HCZP : Hid (CV ((wc.alloc (.cells #[.int .u32 0, .bool false, .bool false, .bool false, .int .u32 0, .int .i64 0, .int .i64 0, .int .i64 0, .int .i64 0] 27)).alloc (.cells #[.slice a b.length ca, .slice c more.length cc] 24)) (some ⟨wc.heap.size + 1, 0, none⟩) [.slice a b.length ca, .slice c more.length cc]) := CZP
        have HUPZ : Hid (VAt ((wc.alloc (.cells #[.slice a b.length ca, .slice c more.length cc] 24)).alloc (.cells #[.int .u32 0, .bool false, .bool false, .bool false, .int .u32 0, .int .i64 0, .int .i64 0, .int .i64 0, .int .i64 0] 27)) (wc.heap.size + 1) 27 (vwA Vw.zero)) := UPZ
        have HUZP : Hid (VAt ((wc.alloc (.cells #[.int .u32 0, .bool false, .bool false, .bool false, .int .u32 0, .int .i64 0, .int .i64 0, .int .i64 0, .int .i64 0] 27)).alloc (.cells #[.slice a b.length ca, .slice c more.length cc] 24)) wc.heap.size 27 (vwA Vw.zero)) := UZP
        have x00 := GP.cell x0 (by simp)
        have x01 := GP.cell x1 (by simp)
        have x02 := GP.cell x2 (by simp)
        have x10 := GZ.cell x0 (by simp)
        have x11 := GZ.cell x1 (by simp)
        have x12 := GZ.cell x2 (by simp)
        have x20 := GPZ.cell x0 (by simp)
        have x21 := GPZ.cell x1 (by simp)
        have x22 := GPZ.cell x2 (by simp)
        have x30 := GZP.cell x0 (by simp)
        have x31 := GZP.cell x1 (by simp)
        have x32 := GZP.cell x2 (by simp)
        have HGP : Hid (wc.grownBy (wc.alloc (.cells #[.slice a b.length ca, .slice c more.length cc] 24)) none) := GP
        have HGPZ : Hid (wc.grownBy ((wc.alloc (.cells #[.slice a b.length ca, .slice c more.length cc] 24)).alloc (.cells #[.int .u32 0, .bool false, .bool false, .bool false, .int .u32 0, .int .i64 0, .int .i64 0, .int .i64 0, .int .i64 0] 27)) none) := GPZ
        have HGZP : Hid (wc.grownBy ((wc.alloc (.cells #[.int .u32 0, .bool false, .bool false, .bool false, .int .u32 0, .int .i64 0, .int .i64 0, .int .i64 0, .int .i64 0] 27)).alloc (.cells #[.slice a b.length ca, .slice c more.length cc] 24)) none) := GZP
        clear GP GZ GPZ GZP CP CPZ CZP UPZ UZP
        have DHGP : Hid (wc.grownBy (wc.alloc (.cells #[.slice a b.length ca, .slice c more.length cc] 24)).drew none) := grown_trans HGP.out (grown_drewN _ 1 none)
        have DHGPZ : Hid (wc.grownBy ((wc.alloc (.cells #[.slice a b.length ca, .slice c more.length cc] 24)).alloc (.cells #[.int .u32 0, .bool false, .bool false, .bool false, .int .u32 0, .int .i64 0, .int .i64 0, .int .i64 0, .int .i64 0] 27)).drew none) := grown_trans HGPZ.out (grown_drewN _ 1 none)
        have DHGZP : Hid (wc.grownBy ((wc.alloc (.cells #[.int .u32 0, .bool false, .bool false, .bool false, .int .u32 0, .int .i64 0, .int .i64 0, .int .i64 0, .int .i64 0] 27)).alloc (.cells #[.slice a b.length ca, .slice c more.length cc] 24)).drew none) := grown_trans HGZP.out (grown_drewN _ 1 none)
        have DHCP : Hid (CV (wc.alloc (.cells #[.slice a b.length ca, .slice c more.length cc] 24)).drew (some ⟨wc.heap.size, 0, none⟩) [.slice a b.length ca, .slice c more.length cc]) := HCP.out.keptNone (grown_drewN _ 1 none)
        have DHCPZ : Hid (CV ((wc.alloc (.cells #[.slice a b.length ca, .slice c more.length cc] 24)).alloc (.cells #[.int .u32 0, .bool false, .bool false, .bool false, .int .u32 0, .int .i64 0, .int .i64 0, .int .i64 0, .int .i64 0] 27)).drew (some ⟨wc.heap.size, 0, none⟩) [.slice a b.length ca, .slice c more.length cc]) := HCPZ.out.keptNone (grown_drewN _ 1 none)
        have DHCZP : Hid (CV ((wc.alloc (.cells #[.int .u32 0, .bool false, .bool false, .bool false, .int .u32 0, .int .i64 0, .int .i64 0, .int .i64 0, .int .i64 0] 27)).alloc (.cells #[.slice a b.length ca, .slice c more.length cc] 24)).drew (some ⟨wc.heap.size + 1, 0, none⟩) [.slice a b.length ca, .slice c more.length cc]) := HCZP.out.keptNone (grown_drewN _ 1 none)
        go_region_with (first
          | (go_at_call 21; refine (HJ.out _ _ ?_ ?_).mono ?_; (with_reducible exact DHGP.out); (with_reducible exact DHCP.out); rintro e w6 ⟨v6, rfl, O6, K6⟩; have KW6 : Hid (wc.grownBy w6 none) := grown_trans DHGP.out K6; have x40 := KW6.out.cell x0 (by simp); have x50 := (World.grownBy_alloc w6 (.cells #[.int .u32 0, .bool false, .bool false, .bool false, .int .u32 0, .int .i64 0, .int .i64 0, .int .i64 0, .int .i64 0] 27) none).cell x40 (by simp); have x41 := KW6.out.cell x1 (by simp); have x51 := (World.grownBy_alloc w6 (.cells #[.int .u32 0, .bool false, .bool false, .bool false, .int .u32 0, .int .i64 0, .int .i64 0, .int .i64 0, .int .i64 0] 27) none).cell x41 (by simp); have x42 := KW6.out.cell x2 (by simp); have x52 := (World.grownBy_alloc w6 (.cells #[.int .u32 0, .bool false, .bool false, .bool false, .int .u32 0, .int .i64 0, .int .i64 0, .int .i64 0, .int .i64 0] 27) none).cell x42 (by simp); obtain ⟨ao6, cap6, rfl, C6, -⟩ := O6.shape; have HC6 : Hid (Cells w6 ao6 bm) := C6; have HC6Z : Hid (Cells (w6.alloc (.cells #[.int .u32 0, .bool false, .bool false, .bool false, .int .u32 0, .int .i64 0, .int .i64 0, .int .i64 0, .int .i64 0] 27)) ao6 bm) := C6.keptNone (World.grownBy_alloc _ _ _))
          | (go_at_call 21; refine (HJ.out _ _ ?_ ?_).mono ?_; (with_reducible exact DHGPZ.out); (with_reducible exact DHCPZ.out); rintro e w6 ⟨v6, rfl, O6, K6⟩; have KW6 : Hid (wc.grownBy w6 none) := grown_trans DHGPZ.out K6; have U6 : Hid (VAt w6 (wc.heap.size + 1) 27 (vwA Vw.zero)) := (HUPZ.out.kept (grown_drewN _ 1 none)).kept K6; have x40 := KW6.out.cell x0 (by simp); have x50 := (World.grownBy_alloc w6 (.cells #[.int .u32 0, .bool false, .bool false, .bool false, .int .u32 0, .int .i64 0, .int .i64 0, .int .i64 0, .int .i64 0] 27) none).cell x40 (by simp); have x41 := KW6.out.cell x1 (by simp); have x51 := (World.grownBy_alloc w6 (.cells #[.int .u32 0, .bool false, .bool false, .bool false, .int .u32 0, .int .i64 0, .int .i64 0, .int .i64 0, .int .i64 0] 27) none).cell x41 (by simp); have x42 := KW6.out.cell x2 (by simp); have x52 := (World.grownBy_alloc w6 (.cells #[.int .u32 0, .bool false, .bool false, .bool false, .int .u32 0, .int .i64 0, .int .i64 0, .int .i64 0, .int .i64 0] 27) none).cell x42 (by simp); obtain ⟨ao6, cap6, rfl, C6, -⟩ := O6.shape; have HC6 : Hid (Cells w6 ao6 bm) := C6; have HC6Z : Hid (Cells (w6.alloc (.cells #[.int .u32 0, .bool false, .bool false, .bool false, .int .u32 0, .int .i64 0, .int .i64 0, .int .i64 0, .int .i64 0] 27)) ao6 bm) := C6.keptNone (World.grownBy_alloc _ _ _))
          | (go_at_call 21; refine (HJ.out _ _ ?_ ?_).mono ?_; (with_reducible exact DHGZP.out); (with_reducible exact DHCZP.out); rintro e w6 ⟨v6, rfl, O6, K6⟩; have KW6 : Hid (wc.grownBy w6 none) := grown_trans DHGZP.out K6; have U6 : Hid (VAt w6 wc.heap.size 27 (vwA Vw.zero)) := (HUZP.out.kept (grown_drewN _ 1 none)).kept K6; have x40 := KW6.out.cell x0 (by simp); have x50 := (World.grownBy_alloc w6 (.cells #[.int .u32 0, .bool false, .bool false, .bool false, .int .u32 0, .int .i64 0, .int .i64 0, .int .i64 0, .int .i64 0] 27) none).cell x40 (by simp); have x41 := KW6.out.cell x1 (by simp); have x51 := (World.grownBy_alloc w6 (.cells #[.int .u32 0, .bool false, .bool false, .bool false, .int .u32 0, .int .i64 0, .int .i64 0, .int .i64 0, .int .i64 0] 27) none).cell x41 (by simp); have x42 := KW6.out.cell x2 (by simp); have x52 := (World.grownBy_alloc w6 (.cells #[.int .u32 0, .bool false, .bool false, .bool false, .int .u32 0, .int .i64 0, .int .i64 0, .int .i64 0, .int .i64 0] 27) none).cell x42 (by simp); obtain ⟨ao6, cap6, rfl, C6, -⟩ := O6.shape; have HC6 : Hid (Cells w6 ao6 bm) := C6; have HC6Z : Hid (Cells (w6.alloc (.cells #[.int .u32 0, .bool false, .bool false, .bool false, .int .u32 0, .int .i64 0, .int .i64 0, .int .i64 0, .int .i64 0] 27)) ao6 bm) := C6.keptNone (World.grownBy_alloc _ _ _))
          | (go_at_call 11; refine (HK2.out _ _ _ ?_).mono ?_; (with_reducible exact HC6.out); rintro e w7 ⟨rfl, K7⟩; have U7 : VAt w7 wc.heap.size 27 (vwA Vw.zero) := U6.out.kept K7; have hs7 : (storeCells ⟨wc.heap.size, 0, none⟩ X.toList).run Try.prog w7 = .ok () (w7.setRow wc.heap.size X) := storeCells_row U7 HS2.out hY9.symm hY1; have hfin : Hid (VAt (w7.setRow wc.heap.size X) wc.heap.size 27 X ∧ wc.grownBy (w7.setRow wc.heap.size X) none ∧ wc.heap.size ≤ wc.heap.size) := ⟨U7.setRow _, vgrown_setRow (grown_trans KW6.out K7) _ _ (.inr (Nat.le_refl _)), Nat.le_refl _⟩)
          | (go_at_call 11; refine (HK2.out _ _ _ ?_).mono ?_; (with_reducible exact HC6.out); rintro e w7 ⟨rfl, K7⟩; have U7 : VAt w7 (wc.heap.size + 1) 27 (vwA Vw.zero) := U6.out.kept K7; have hs7 : (storeCells ⟨wc.heap.size + 1, 0, none⟩ X.toList).run Try.prog w7 = .ok () (w7.setRow (wc.heap.size + 1) X) := storeCells_row U7 HS2.out hY9.symm hY1; have hfin : Hid (VAt (w7.setRow (wc.heap.size + 1) X) (wc.heap.size + 1) 27 X ∧ wc.grownBy (w7.setRow (wc.heap.size + 1) X) none ∧ wc.heap.size ≤ (wc.heap.size + 1)) := ⟨U7.setRow _, vgrown_setRow (grown_trans KW6.out K7) _ _ (.inr (by omega)), by omega⟩)
          | (go_at_call 11; refine (HK2.out _ _ _ ?_).mono ?_; (with_reducible exact HC6.out); rintro e w7 ⟨rfl, K7⟩; have hs7 : (storeCells ⟨w7.heap.size, 0, none⟩ X.toList).run Try.prog (w7.alloc (.cells #[.int .u32 0, .bool false, .bool false, .bool false, .int .u32 0, .int .i64 0, .int .i64 0, .int .i64 0, .int .i64 0] 27)) = .ok () ((w7.alloc (.cells #[.int .u32 0, .bool false, .bool false, .bool false, .int .u32 0, .int .i64 0, .int .i64 0, .int .i64 0, .int .i64 0] 27)).setRow w7.heap.size X) := storeCells_row (VAt.alloc w7 27 (vwA Vw.zero)) HS2.out hY9.symm hY1; have hfin : Hid (VAt ((w7.alloc (.cells #[.int .u32 0, .bool false, .bool false, .bool false, .int .u32 0, .int .i64 0, .int .i64 0, .int .i64 0, .int .i64 0] 27)).setRow w7.heap.size X) w7.heap.size 27 X ∧ wc.grownBy ((w7.alloc (.cells #[.int .u32 0, .bool false, .bool false, .bool false, .int .u32 0, .int .i64 0, .int .i64 0, .int .i64 0, .int .i64 0] 27)).setRow w7.heap.size X) none ∧ wc.heap.size ≤ w7.heap.size) := ⟨(VAt.alloc w7 27 (vwA Vw.zero)).setRow _, vgrown_setRow (grown_trans (grown_trans KW6.out K7) (World.grownBy_alloc _ _ _)) _ _ (.inr (grown_trans KW6.out K7).size), (grown_trans KW6.out K7).size⟩)
          | (go_at_call 11; refine (HK2.out _ _ _ ?_).mono ?_; (with_reducible exact HC6Z.out); rintro e w7 ⟨rfl, K7⟩; have U7 : VAt w7 w6.heap.size 27 (vwA Vw.zero) := (VAt.alloc w6 _ _).kept K7; have hs7 : (storeCells ⟨w6.heap.size, 0, none⟩ X.toList).run Try.prog w7 = .ok () (w7.setRow w6.heap.size X) := storeCells_row U7 HS2.out hY9.symm hY1; have hfin : Hid (VAt (w7.setRow w6.heap.size X) w6.heap.size 27 X ∧ wc.grownBy (w7.setRow w6.heap.size X) none ∧ wc.heap.size ≤ w6.heap.size) := ⟨U7.setRow _, vgrown_setRow (grown_trans KW6.out (grown_trans (World.grownBy_alloc w6 (.cells #[.int .u32 0, .bool false, .bool false, .bool false, .int .u32 0, .int .i64 0, .int .i64 0, .int .i64 0, .int .i64 0] 27) none) K7)) _ _ (.inr KW6.out.size), KW6.out.size⟩))
        all_goals
          go_wp2
          go_meet
          exact ⟨_, rfl, rfl, hfin.out⟩
      case rest =>
        obtain ⟨V2, rfl, rfl, VA2, K2, hV2⟩ := hcut
        have G3 := grown_trans G2 K2
        have VA1 := VA.kept K2
        rw [← HX.out] at VA1 VA2
        obtain ⟨c0, c1, c2, c3, c4, c5, c6, c7, c8⟩ := VA1.nine
        obtain ⟨d0, d1, d2, d3, d4, d5, d6, d7, d8⟩ := VA2.nine
        clear VA VA1 VA2 HJ HK2 HS2 HX HX2 K2 G2
        go_wp2_with fail
        refine (awake7_any _).mono ?_
        rintro e wz ⟨rfl, Kz⟩
        go_wp2
        go_ret
        exact ⟨rfl, grown_trans G3 Kz⟩

set_option maxRecDepth 100000 in
theorem lifted (os : Os) (started : os.Started) (H : Type) (enc : TypeId × Value → H) :
    ReturnsInHanded {} Try.checked os 7 .any (Rows.frameGrowsSpec.pre6 enc Try.prog Try.f7 Rows.frameGrowsRow.domain false) (Rows.frameGrowsSpec.post enc Try.prog Try.f7 false true false false) := by
  refine returnsInHanded_of_change_sized (C := Try.checked) own started (by kernel_rfl) Try.func7
    (ChangeSpec.witness6 (enc := enc) (C := Try.checked) false ⟨#[], #[.agg #[.bool false, .bool false, .int .i64 0], .slice none 0 0, .slice none 0 0], []⟩ 8 (by kernel_rfl) (by kernel_rfl) (by kernel_rfl) (by kernel_rfl)) ?_
  intro W base args ds gs before hval0 hW hcnd hsz0 _
  have hsz : (DataW.weightsEach Try.prog (Try.f7.params.toList ++ Rows.frameGrowsSpec.plain.varTypes Try.prog) (ds ++ gs)).all (· ≤ reachBytes) = true := hsz0
  have hval : ∀ (j : Nat) t v, Try.f7.params[j]? = some t → args[j]? = some v → Value.okWide Try.prog W .any base t v := hval0
  have hW' := hW
  obtain ⟨p, q, hA0, hV, rfl, hfz, hnd⟩ := hW
  have hA : DataW.TrodAll enc Try.prog W 0 (fun _ => true) true Try.f7.params.toList args.toList ds p := hA0
  rw [Try.params7] at hA hval hsz
  obtain ⟨v0, vs0, d0, ds0, p0, q0, hargs, rfl, rfl, h0, r0⟩ := trodAll_cons hA
  obtain ⟨v1, vs1, d1, ds1, p1, q1, rfl, rfl, rfl, h1, r1⟩ := trodAll_cons r0
  obtain ⟨v2, vs2, d2, ds2, p2, q2, rfl, rfl, rfl, h2, r2⟩ := trodAll_cons r1
  obtain ⟨rfl, rfl, rfl⟩ := trodAll_nil r2
  obtain rfl : args = #[v0, v1, v2] := by cases args; simp_all
  obtain ⟨rfl, rfl⟩ := trodVars_none hV
  have k0 := h0
  have lt0 : ∀ x ∈ p0, x.block < W.heap.size := by obtain ⟨m, hm⟩ := k0; exact DataW.trod_lt m _ _ _ hm
  obtain ⟨x0, rfl⟩ := open_link h0
  obtain ⟨a1, len1, cap1, rfl⟩ := okWide_slice Try.underlying24 (hval 1 24 v1 rfl rfl)
  have k1 := h1
  have lt1 : ∀ x ∈ p1, x.block < W.heap.size := by obtain ⟨m, hm⟩ := k1; exact DataW.trod_lt m _ _ _ hm
  obtain ⟨xs1, rfl, hcells1, hnil1, hdat1⟩ := open_bytes Try.underlying24 Try.underlying5 (by kernel_rfl) h1
  obtain ⟨a2, len2, cap2, rfl⟩ := okWide_slice Try.underlying24 (hval 2 24 v2 rfl rfl)
  have k2 := h2
  have lt2 : ∀ x ∈ p2, x.block < W.heap.size := by obtain ⟨m, hm⟩ := k2; exact DataW.trod_lt m _ _ _ hm
  obtain ⟨xs2, rfl, hcells2, hnil2, hdat2⟩ := open_bytes Try.underlying24 Try.underlying5 (by kernel_rfl) h2
  have hlen1 : xs1.length * 1 ≤ 140737488351232 := by
    rcases hdat1 with ⟨_, rfl⟩ | ⟨elems, spare, rfl, hle⟩
    · simp
    · have := sized_slice hsz (j := 1) (t := 24) (e := 5) rfl rfl Try.underlying24
      rw [bytes5] at this
      unfold reachBytes at this
      omega
  have hlen2 : xs2.length * 1 ≤ 140737488351232 := by
    rcases hdat2 with ⟨_, rfl⟩ | ⟨elems, spare, rfl, hle⟩
    · simp
    · have := sized_slice hsz (j := 2) (t := 24) (e := 5) rfl rfl Try.underlying24
      rw [bytes5] at this
      unfold reachBytes at this
      omega
  clear hA0 hval0
  refine (walk x0 a1 cap1 xs1 a2 cap2 xs2 W hcells1 hnil1 (by omega) hcells2 hnil2 (by omega)).mono fun e W' ⟨he, hg⟩ => ?_
  subst he
  have bel : Below W.heap.size W W' := (Below.refl _ _).grown hg (Nat.le_refl _) (by simp)
  exact ⟨_, rfl, _, _, _, [], _, [], hW', trodAll_mk1 (shut_bool Try.underlying4 _), (trodAll_cons_mk (Below.trod laidOut (by kernel_rfl) (of_decide_eq_true (by kernel_rfl)) k0 bel lt0) (trodAll_cons_mk (Below.trod laidOut (by kernel_rfl) (of_decide_eq_true (by kernel_rfl)) k1 bel lt1) (trodAll_cons_mk (Below.trod laidOut (by kernel_rfl) (of_decide_eq_true (by kernel_rfl)) k2 bel lt2) trodAll_mk0))), rfl, bel.frame _, fun h => by cases h⟩

theorem over : Rows.FrameGrowsSaid :=
  OpenClaim.holds_of_wide 7 Try.f7 rfl rfl rfl rfl rfl rfl rfl ⟨rfl, rfl, rfl, rfl, rfl⟩ rfl rfl rfl rfl rfl (by kernel_rfl) Try.func7 (by kernel_rfl)
    (of_decide_eq_true (by kernel_rfl)) (by unfold Func.isWrapper; first | (rw [if_pos (by decide +kernel)]; kernel_rfl) | (rw [if_neg (by decide +kernel)]; exact ⟨rfl, rfl⟩))
    (fun os started H enc _ => lifted os started H enc)

end frameGrows

theorem frameGrows_holds : Rows.FrameGrowsSaid := frameGrows.over
#print axioms frameGrows_holds
end Go.Proofs.Ytjjccbegljkkfaa
