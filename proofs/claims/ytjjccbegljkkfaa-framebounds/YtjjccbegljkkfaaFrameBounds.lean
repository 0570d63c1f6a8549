/-
  For every link and every list of bytes (its capacity at most 2^47 - 4096 bytes, as the form itself says of each argument) riddlelaw7.FrameBounds returns true and leaves what was there as it was: no condition of ours.
-/
import Derived.Test.YtjjccbegljkkfaaOpenL
import Derived.Test.YtjjccbegljkkfaaFrameK
import Derived.Deep.DeepCutAuto
namespace Go.Proofs.Ytjjccbegljkkfaa
open Go.ChangeShapes Go.WideShapes Go.ChangeAt Go.RowKit
open Go.ChangeMaps (open_string shut_string)
set_option maxRecDepth 100000
namespace frameBounds

set_option maxRecDepth 100000 in
set_option maxHeartbeats 2000000 in
theorem walk (l : Lk) (a : Option Addr) (ca : Nat) (b : List UInt8) (w : World) (ha : Cells w a b) (hc0 : a = none → ca = 0) (hn : b.length ≤ 140737488351232) :
    Calls Try.prog 6 #[.agg (lkA l), .slice a b.length ca] w fun e w' => e = .returned (.bool true) ∧ w.grownBy w' none := by
  have H : Hid (Cells w a b) := ha
  obtain ⟨v, hv⟩ : ∃ v, exV Vw.zero (lookX l b) = v := ⟨_, rfl⟩
  obtain ⟨E, hE⟩ : ∃ E, exE (lookX l b) = E := ⟨_, rfl⟩
  obtain ⟨X, hX⟩ : ∃ X, vwA v = X := ⟨_, rfl⟩
  have hX9 : X.size = 9 := by rw [← hX]; rfl
  have hX1 : X.all (·.oneCell') = true := by rw [← hX]; exact vwA_all v
  have HS : Hid ((Try.prog.info? 27).map (·.size) = some X.size) := by rw [hX9]; exact size27
  have HX : Hid (vwA v = X) := hX
  have HK : Hid (∀ (a : Option Addr) (ca : Nat) (W : World), Cells W a b → Calls Try.prog 11 #[.agg #[.bool l.acfc, .bool l.pfc, .int .i64 l.mp], .slice a b.length ca] W fun e w' => e = .returned (.tuple #[.agg X, .int .i64 E]) ∧ W.grownBy w' none) := fun a ca W h => by
    have k := look_any l a ca b W h (by omega)
    rw [hv, hE, hX] at k
    exact k
  have HV : Hid (exV Vw.zero (lookX l b) = v ∧ exE (lookX l b) = E) := ⟨hv, hE⟩
  have L0 := VAt.alloc w 23 (lkA l)
  have G0 : w.grownBy (w.alloc (.cells (lkA l) 23)) none := World.grownBy_alloc _ _ _
  clear hv hE hX ha
  simp only [lkA] at L0 G0 ⊢
  go_enter Try.func6, Try.ntmps6
  go_upto_region 1 with fail
  generalize w.alloc (.cells #[.bool l.acfc, .bool l.pfc, .int .i64 l.mp] 23) = w1 at *
  generalize w.heap.size = B at *
  have x0 : w1.cell? ⟨B, 0, none⟩ = some (.bool l.acfc) := L0.cell 0
  have x1 : w1.cell? ⟨B, 1, none⟩ = some (.bool l.pfc) := L0.cell 1
  have x2 : w1.cell? ⟨B, 2, none⟩ = some (.int .i64 l.mp) := L0.cell 2
  go_upto_region 1 with fail
  go_cut [5, 6] from 11 to 17 (fun s e wx => ∃ V, s = .pointer (some ⟨V, 0, none⟩) ∧ e = .int .i64 E ∧ VAt wx V 27 X ∧ w1.grownBy wx none ∧ w1.heap.size ≤ V)
  case first =>
    have HQ1 : Hid (Cells w1.drew a b) := H.out.keptNone (grown_trans G0 (grown_drewN _ 1 none))
    have HQ2 : Hid (Cells (w1.alloc (.cells #[.int .u32 0, .bool false, .bool false, .bool false, .int .u32 0, .int .i64 0, .int .i64 0, .int .i64 0, .int .i64 0] 27)).drew a b) := H.out.keptNone (grown_trans G0 (grown_trans (World.grownBy_alloc w1 (.cells #[.int .u32 0, .bool false, .bool false, .bool false, .int .u32 0, .int .i64 0, .int .i64 0, .int .i64 0, .int .i64 0] 27) none) (grown_drewN _ 1 none)))
    have zx0 := (World.grownBy_alloc w1 (.cells #[.int .u32 0, .bool false, .bool false, .bool false, .int .u32 0, .int .i64 0, .int .i64 0, .int .i64 0, .int .i64 0] 27) none).cell x0 (by simp)
    have zx1 := (World.grownBy_alloc w1 (.cells #[.int .u32 0, .bool false, .bool false, .bool false, .int .u32 0, .int .i64 0, .int .i64 0, .int .i64 0, .int .i64 0] 27) none).cell x1 (by simp)
    have zx2 := (World.grownBy_alloc w1 (.cells #[.int .u32 0, .bool false, .bool false, .bool false, .int .u32 0, .int .i64 0, .int .i64 0, .int .i64 0, .int .i64 0] 27) none).cell x2 (by simp)
    go_region_with (first
      | (go_at_call 16; refine (copy_any a ca b _ ?_ hc0 (by omega)).mono ?_; (with_reducible exact HQ1.out); rintro e w2 ⟨v2, rfl, O2, K2⟩; have KW2 : Hid (w1.grownBy w2 none) := (by first | exact K2 | exact grown_trans (grown_drewN w1 1 none) K2); have x20 := KW2.out.cell x0 (by simp); have y20 := (World.grownBy_alloc w2 (.cells #[.int .u32 0, .bool false, .bool false, .bool false, .int .u32 0, .int .i64 0, .int .i64 0, .int .i64 0, .int .i64 0] 27) none).cell x20 (by simp); have x21 := KW2.out.cell x1 (by simp); have y21 := (World.grownBy_alloc w2 (.cells #[.int .u32 0, .bool false, .bool false, .bool false, .int .u32 0, .int .i64 0, .int .i64 0, .int .i64 0, .int .i64 0] 27) none).cell x21 (by simp); have x22 := KW2.out.cell x2 (by simp); have y22 := (World.grownBy_alloc w2 (.cells #[.int .u32 0, .bool false, .bool false, .bool false, .int .u32 0, .int .i64 0, .int .i64 0, .int .i64 0, .int .i64 0] 27) none).cell x22 (by simp); obtain ⟨ao2, cap2, rfl, C2, -⟩ := O2.shape; have HC2 : Hid (Cells w2 ao2 b) := C2; have HC2Z : Hid (Cells (w2.alloc (.cells #[.int .u32 0, .bool false, .bool false, .bool false, .int .u32 0, .int .i64 0, .int .i64 0, .int .i64 0, .int .i64 0] 27)) ao2 b) := C2.keptNone (World.grownBy_alloc _ _ _))
      | (go_at_call 16; refine (copy_any a ca b _ ?_ hc0 (by omega)).mono ?_; (with_reducible exact HQ2.out); rintro e w2 ⟨v2, rfl, O2, K2⟩; have U2 : Hid (VAt w2 w1.heap.size 27 (vwA Vw.zero)) := ((VAt.alloc w1 27 (vwA Vw.zero)).kept (grown_drewN _ 1 none)).kept K2; have KW2 : Hid (w1.grownBy w2 none) := grown_trans (grown_trans (World.grownBy_alloc w1 (.cells #[.int .u32 0, .bool false, .bool false, .bool false, .int .u32 0, .int .i64 0, .int .i64 0, .int .i64 0, .int .i64 0] 27) none) (grown_drewN _ 1 none)) K2; have x20 := KW2.out.cell x0 (by simp); have y20 := (World.grownBy_alloc w2 (.cells #[.int .u32 0, .bool false, .bool false, .bool false, .int .u32 0, .int .i64 0, .int .i64 0, .int .i64 0, .int .i64 0] 27) none).cell x20 (by simp); have x21 := KW2.out.cell x1 (by simp); have y21 := (World.grownBy_alloc w2 (.cells #[.int .u32 0, .bool false, .bool false, .bool false, .int .u32 0, .int .i64 0, .int .i64 0, .int .i64 0, .int .i64 0] 27) none).cell x21 (by simp); have x22 := KW2.out.cell x2 (by simp); have y22 := (World.grownBy_alloc w2 (.cells #[.int .u32 0, .bool false, .bool false, .bool false, .int .u32 0, .int .i64 0, .int .i64 0, .int .i64 0, .int .i64 0] 27) none).cell x22 (by simp); obtain ⟨ao2, cap2, rfl, C2, -⟩ := O2.shape; have HC2 : Hid (Cells w2 ao2 b) := C2; have HC2Z : Hid (Cells (w2.alloc (.cells #[.int .u32 0, .bool false, .bool false, .bool false, .int .u32 0, .int .i64 0, .int .i64 0, .int .i64 0, .int .i64 0] 27)) ao2 b) := C2.keptNone (World.grownBy_alloc _ _ _))
      | (go_at_call 11; refine (HK.out _ _ _ ?_).mono ?_; (with_reducible exact HC2.out); rintro e w3 ⟨rfl, K3⟩; have U3 := U2.out.kept K3; have hs3 : (storeCells ⟨w1.heap.size, 0, none⟩ X.toList).run Try.prog w3 = .ok () (w3.setRow w1.heap.size X) := storeCells_row U3 HS.out hX9.symm hX1; have hfin : Hid (VAt (w3.setRow w1.heap.size X) w1.heap.size 27 X ∧ w1.grownBy (w3.setRow w1.heap.size X) none ∧ w1.heap.size ≤ w1.heap.size) := ⟨U3.setRow _, vgrown_setRow (grown_trans KW2.out K3) _ _ (.inr (Nat.le_refl _)), Nat.le_refl _⟩)
      | (go_at_call 11; refine (HK.out _ _ _ ?_).mono ?_; (with_reducible exact HC2.out); rintro e w3 ⟨rfl, K3⟩; have hs3 : (storeCells ⟨w3.heap.size, 0, none⟩ X.toList).run Try.prog (w3.alloc (.cells #[.int .u32 0, .bool false, .bool false, .bool false, .int .u32 0, .int .i64 0, .int .i64 0, .int .i64 0, .int .i64 0] 27)) = .ok () ((w3.alloc (.cells #[.int .u32 0, .bool false, .bool false, .bool false, .int .u32 0, .int .i64 0, .int .i64 0, .int .i64 0, .int .i64 0] 27)).setRow w3.heap.size X) := storeCells_row (VAt.alloc w3 27 (vwA Vw.zero)) HS.out hX9.symm hX1; have hfin : Hid (VAt ((w3.alloc (.cells #[.int .u32 0, .bool false, .bool false, .bool false, .int .u32 0, .int .i64 0, .int .i64 0, .int .i64 0, .int .i64 0] 27)).setRow w3.heap.size X) w3.heap.size 27 X ∧ w1.grownBy ((w3.alloc (.cells #[.int .u32 0, .bool false, .bool false, .bool false, .int .u32 0, .int .i64 0, .int .i64 0, .int .i64 0, .int .i64 0] 27)).setRow w3.heap.size X) none ∧ w1.heap.size ≤ w3.heap.size) := ⟨(VAt.alloc w3 27 (vwA Vw.zero)).setRow _, vgrown_setRow (grown_trans (grown_trans KW2.out K3) (World.grownBy_alloc _ _ _)) _ _ (.inr (grown_trans KW2.out K3).size), (grown_trans KW2.out K3).size⟩)
      | (go_at_call 11; refine (HK.out _ _ _ ?_).mono ?_; (with_reducible exact HC2Z.out); rintro e w3 ⟨rfl, K3⟩; have U3 : VAt w3 w2.heap.size 27 (vwA Vw.zero) := (VAt.alloc w2 _ _).kept K3; have hs3 : (storeCells ⟨w2.heap.size, 0, none⟩ X.toList).run Try.prog w3 = .ok () (w3.setRow w2.heap.size X) := storeCells_row U3 HS.out hX9.symm hX1; have hfin : Hid (VAt (w3.setRow w2.heap.size X) w2.heap.size 27 X ∧ w1.grownBy (w3.setRow w2.heap.size X) none ∧ w1.heap.size ≤ w2.heap.size) := ⟨U3.setRow _, vgrown_setRow (grown_trans KW2.out (grown_trans (World.grownBy_alloc w2 (.cells #[.int .u32 0, .bool false, .bool false, .bool false, .int .u32 0, .int .i64 0, .int .i64 0, .int .i64 0, .int .i64 0] 27) none) K3)) _ _ (.inr KW2.out.size), KW2.out.size⟩))
    all_goals
      go_wp2
      go_meet
      exact ⟨_, rfl, rfl, hfin.out⟩
  case rest =>
    obtain ⟨V, rfl, rfl, VA, K, hV⟩ := hcut
    have G2 := grown_trans G0 K
    have x2' := K.cell x2 (by simp)
    rw [← HX.out] at VA
    obtain ⟨c0, c1, c2, c3, c4, c5, c6, c7, c8⟩ := VA.nine
    clear x0 x1 x2 L0 G0 K VA HK HS hX9 hX1 HX
    cases hlk : lookX l b with
    | error er =>
      have h1 : v = Vw.zero := by rw [← HV.out.1, hlk]; rfl
      have h2 : E = er := by rw [← HV.out.2, hlk]; rfl
      have hz := look_err hlk
      subst h1 h2
      clear HV hlk
      simp only [Vw.zero] at c0 c1 c2 c3 c4 c5 c6 c7 c8
      go_wp2_with fail
      refine (awake7_any _).mono ?_
      rintro e w4 ⟨rfl, K4⟩
      go_wp2
      go_ret
      exact ⟨rfl, grown_trans G2 K4⟩
    | ok vv =>
      have h1 : v = vv := by rw [← HV.out.1, hlk]; rfl
      have h2 : E = 0 := by rw [← HV.out.2, hlk]; rfl
      have ok := look_ok hlk
      subst h1 h2
      clear HV hlk
      have HOK : Hid (LookOk l b v) := ok
      have t1 : decide ((v.pos : Int) < 1) = false := by have := ok.pos1; exact decide_eq_false (by omega)
      have t2 : decide (b.length < v.pos) = false := by have := ok.pos2; exact decide_eq_false (by omega)
      have t3 : decide ((v.load : Int) < 0) = false := decide_eq_false (by omega)
      have t4 : decide (b.length < v.load) = false := by have := ok.load; exact decide_eq_false (by omega)
      have t5 : decide ((65535 : Int) < (v.proto : Int)) = false := by have := ok.pr.1; exact decide_eq_false (by omega)
      have t6 : ((v.proto : Int) % 2 == 0) = false := by have := ok.pr.2; rw [beq_eq_false_iff_ne]; omega
      have t7 : ((v.load : Int) != 0) = false ∨ ((v.load : Int) != 0) = true ∧ decide ((v.load : Int) < (v.pos : Int) + 20) = false := by
        by_cases h0 : v.load = 0
        · exact .inl (by rw [h0]; rfl)
        · have := ok.far h0
          exact .inr ⟨by rw [bne_iff_ne]; omega, decide_eq_false (by omega)⟩
      have bp := ok.pos2
      have bl := ok.len
      clear ok
      go_upto_region 4 with fail
      go_cut [71] from 26 to 71 (fun s wx => s = .bool false ∧ wx = wc)
      case first =>
        rcases t7 with t7 | ⟨t7, t8⟩
        · go_wp2
          go_meet
          exact ⟨rfl, rfl⟩
        · go_wp2
          go_meet
          exact ⟨rfl, rfl⟩
      case rest =>
        obtain ⟨rfl, rfl⟩ := hcut
        clear t1 t2 t3 t4 t5 t6 t7
        obtain ⟨p, hp⟩ : ∃ p : Bool, (decide (v.proto = 33) && (!v.multi || v.beg)) = p := ⟨_, rfl⟩
        obtain ⟨q, hq⟩ : ∃ q : Bool, (decide (v.proto = 87) && (!v.multi || v.beg)) = q := ⟨_, rfl⟩
        have HPQ : Hid ((p = true ∧ q = false ∧ v.net = 4) ∨ (p = false ∧ q = true ∧ v.net = 6) ∨ (p = false ∧ q = false ∧ v.net = 0)) := by
          show _ ∨ _
          have hnet := HOK.out.net
          rw [← hp, ← hq, hnet]
          by_cases p33 : v.proto = 33
          · cases v.multi <;> cases v.beg <;> simp [p33]
          · by_cases p87 : v.proto = 87
            · cases v.multi <;> cases v.beg <;> simp [p87]
            · simp [p33, p87]
        have HP : Hid ((decide (v.proto = 33) && (!v.multi || v.beg)) = p ∧ (decide (v.proto = 87) && (!v.multi || v.beg)) = q) := ⟨hp, hq⟩
        have q33 : ((v.proto : Int) == 33) = decide (v.proto = 33) := by
          by_cases h : v.proto = 33
          · rw [h]; rfl
          · rw [decide_eq_false h, beq_eq_false_iff_ne]; omega
        have q87 : ((v.proto : Int) == 87) = decide (v.proto = 87) := by
          by_cases h : v.proto = 87
          · rw [h]; rfl
          · rw [decide_eq_false h, beq_eq_false_iff_ne]; omega
        clear hp hq
        go_upto_region 6 with fail
        go_cut [7] from 72 to 83 (fun s wx => s = .bool p ∧ wx = wc)
        case first =>
          clear c3 c4 c5 c6 c7 c8 HPQ q87
          have hh := HP.out.1
          cases h3 : decide (v.proto = 33) with
          | false =>
            rw [h3] at hh q33
            subst hh
            clear c1 c2
            go_wp2
            go_meet
            exact ⟨rfl, rfl⟩
          | true =>
            rw [h3] at hh q33
            cases hm : v.multi with
            | false =>
              rw [hm] at hh c1
              subst hh
              clear c2
              go_wp2
              go_meet
              exact ⟨rfl, rfl⟩
            | true =>
              rw [hm] at hh c1
              subst hh
              go_wp2
              go_meet
              exact ⟨by simp, rfl⟩
        case rest =>
        obtain ⟨rfl, rfl⟩ := hcut
        go_upto_region 7 with fail
        go_cut [8] from 84 to 95 (fun s wx => s = .bool q ∧ wx = wc)
        case first =>
          clear c3 c4 c5 c6 c7 c8 HPQ q33
          have hh := HP.out.2
          cases h3 : decide (v.proto = 87) with
          | false =>
            rw [h3] at hh q87
            subst hh
            clear c1 c2
            go_wp2
            go_meet
            exact ⟨rfl, rfl⟩
          | true =>
            rw [h3] at hh q87
            cases hm : v.multi with
            | false =>
              rw [hm] at hh c1
              subst hh
              clear c2
              go_wp2
              go_meet
              exact ⟨rfl, rfl⟩
            | true =>
              rw [hm] at hh c1
              subst hh
              go_wp2
              go_meet
              exact ⟨by simp, rfl⟩
        case rest =>
        obtain ⟨rfl, rfl⟩ := hcut
        clear HP q33 q87
        rcases HPQ.out with ⟨rfl, rfl, hN⟩ | ⟨rfl, rfl, hN⟩ | ⟨rfl, rfl, hN⟩
        · clear HPQ
          rw [hN] at c6
          have ok := HOK.out
          have n1 : decide ((v.next : Int) < 0) = false := decide_eq_false (by omega)
          have n2 : decide ((255 : Int) < (v.next : Int)) = false := by have := ok.next; exact decide_eq_false (by omega)
          have n4 : v.net = 0 → ((v.next : Int) != 0) = false ∧ ((v.load : Int) != 0) = false := by
            intro h0
            obtain ⟨h1, h2⟩ := ok.none h0
            exact ⟨by rw [h1]; rfl, by rw [h2]; rfl⟩
          clear ok
          go_upto_region 13 with fail
          go_cut [125] from 98 to 125 (fun s wx => s = .bool false ∧ wx = wc)
          case first =>
            clear HOK c0 c1 c2 c3 c4 c5
            clear n4
            go_wp2
            go_meet
            exact ⟨rfl, rfl⟩
          case rest =>
            obtain ⟨rfl, rfl⟩ := hcut
            clear n1 n2 n4 c0 c5 c6 c7 c8
            have ok := HOK.out
            have two := ok.two
            have one := ok.one
            unfold spV at two
            have d1 : (v.multi = false ∧ v.beg = false ∧ v.fin = false ∧ ((v.seq : Int) != 0) = false) ∨ (v.multi = true ∧ (l.mp == 0) = false ∧ ((l.mp == 2) = false ∧ decide ((4096 : Int) ≤ (v.seq : Int)) = false ∨ (l.mp == 2) = true ∧ decide ((16777216 : Int) ≤ (v.seq : Int)) = false)) := by
              cases hm : v.multi with
              | false =>
                obtain ⟨o1, o2, o3⟩ := one hm
                exact .inl ⟨rfl, o1, o2, by rw [o3]; rfl⟩
              | true =>
                obtain ⟨o1, o2⟩ := two hm
                refine .inr ⟨rfl, by rw [beq_eq_false_iff_ne]; exact o1, ?_⟩
                by_cases h2 : l.mp = 2
                · rw [if_pos h2] at o2
                  exact .inr ⟨by rw [h2]; rfl, decide_eq_false (by omega)⟩
                · rw [if_neg h2] at o2
                  exact .inl ⟨by rw [beq_eq_false_iff_ne]; exact h2, decide_eq_false (by omega)⟩
            clear ok two one HOK
            rcases d1 with ⟨hm, hb, hf, hs⟩ | ⟨hm, h0, ⟨h2, hs⟩ | ⟨h2, hs⟩⟩
            · rw [hm] at c1
              rw [hb] at c2
              rw [hf] at c3
              cases h2 : (l.mp == 2)
              all_goals
                go_wp2_with fail
                refine (awake7_any _).mono ?_
                rintro e w4 ⟨rfl, K4⟩
                go_wp2
                go_ret
                exact ⟨rfl, grown_trans G2 K4⟩
            all_goals
              rw [hm] at c1
              go_wp2_with fail
              refine (awake7_any _).mono ?_
              rintro e w4 ⟨rfl, K4⟩
              go_wp2
              go_ret
              exact ⟨rfl, grown_trans G2 K4⟩
        · clear HPQ
          rw [hN] at c6
          have ok := HOK.out
          have n1 : decide ((v.next : Int) < 0) = false := decide_eq_false (by omega)
          have n2 : decide ((255 : Int) < (v.next : Int)) = false := by have := ok.next; exact decide_eq_false (by omega)
          have n4 : v.net = 0 → ((v.next : Int) != 0) = false ∧ ((v.load : Int) != 0) = false := by
            intro h0
            obtain ⟨h1, h2⟩ := ok.none h0
            exact ⟨by rw [h1]; rfl, by rw [h2]; rfl⟩
          clear ok
          go_upto_region 13 with fail
          go_cut [125] from 98 to 125 (fun s wx => s = .bool false ∧ wx = wc)
          case first =>
            clear HOK c0 c1 c2 c3 c4 c5
            clear n4
            go_wp2
            go_meet
            exact ⟨rfl, rfl⟩
          case rest =>
            obtain ⟨rfl, rfl⟩ := hcut
            clear n1 n2 n4 c0 c5 c6 c7 c8
            have ok := HOK.out
            have two := ok.two
            have one := ok.one
            unfold spV at two
            have d1 : (v.multi = false ∧ v.beg = false ∧ v.fin = false ∧ ((v.seq : Int) != 0) = false) ∨ (v.multi = true ∧ (l.mp == 0) = false ∧ ((l.mp == 2) = false ∧ decide ((4096 : Int) ≤ (v.seq : Int)) = false ∨ (l.mp == 2) = true ∧ decide ((16777216 : Int) ≤ (v.seq : Int)) = false)) := by
              cases hm : v.multi with
              | false =>
                obtain ⟨o1, o2, o3⟩ := one hm
                exact .inl ⟨rfl, o1, o2, by rw [o3]; rfl⟩
              | true =>
                obtain ⟨o1, o2⟩ := two hm
                refine .inr ⟨rfl, by rw [beq_eq_false_iff_ne]; exact o1, ?_⟩
                by_cases h2 : l.mp = 2
                · rw [if_pos h2] at o2
                  exact .inr ⟨by rw [h2]; rfl, decide_eq_false (by omega)⟩
                · rw [if_neg h2] at o2
                  exact .inl ⟨by rw [beq_eq_false_iff_ne]; exact h2, decide_eq_false (by omega)⟩
            clear ok two one HOK
            rcases d1 with ⟨hm, hb, hf, hs⟩ | ⟨hm, h0, ⟨h2, hs⟩ | ⟨h2, hs⟩⟩
            · rw [hm] at c1
              rw [hb] at c2
              rw [hf] at c3
              cases h2 : (l.mp == 2)
              all_goals
                go_wp2_with fail
                refine (awake7_any _).mono ?_
                rintro e w4 ⟨rfl, K4⟩
                go_wp2
                go_ret
                exact ⟨rfl, grown_trans G2 K4⟩
            all_goals
              rw [hm] at c1
              go_wp2_with fail
              refine (awake7_any _).mono ?_
              rintro e w4 ⟨rfl, K4⟩
              go_wp2
              go_ret
              exact ⟨rfl, grown_trans G2 K4⟩
        · clear HPQ
          rw [hN] at c6
          have ok := HOK.out
          have n1 : decide ((v.next : Int) < 0) = false := decide_eq_false (by omega)
          have n2 : decide ((255 : Int) < (v.next : Int)) = false := by have := ok.next; exact decide_eq_false (by omega)
          have n4 : v.net = 0 → ((v.next : Int) != 0) = false ∧ ((v.load : Int) != 0) = false := by
            intro h0
            obtain ⟨h1, h2⟩ := ok.none h0
            exact ⟨by rw [h1]; rfl, by rw [h2]; rfl⟩
          clear ok
          go_upto_region 13 with fail
          go_cut [125] from 98 to 125 (fun s wx => s = .bool false ∧ wx = wc)
          case first =>
            clear HOK c0 c1 c2 c3 c4 c5
            obtain ⟨n5, n6⟩ := n4 hN
            clear n4
            go_wp2
            go_meet
            exact ⟨rfl, rfl⟩
          case rest =>
            obtain ⟨rfl, rfl⟩ := hcut
            clear n1 n2 n4 c0 c5 c6 c7 c8
            have ok := HOK.out
            have two := ok.two
            have one := ok.one
            unfold spV at two
            have d1 : (v.multi = false ∧ v.beg = false ∧ v.fin = false ∧ ((v.seq : Int) != 0) = false) ∨ (v.multi = true ∧ (l.mp == 0) = false ∧ ((l.mp == 2) = false ∧ decide ((4096 : Int) ≤ (v.seq : Int)) = false ∨ (l.mp == 2) = true ∧ decide ((16777216 : Int) ≤ (v.seq : Int)) = false)) := by
              cases hm : v.multi with
              | false =>
                obtain ⟨o1, o2, o3⟩ := one hm
                exact .inl ⟨rfl, o1, o2, by rw [o3]; rfl⟩
              | true =>
                obtain ⟨o1, o2⟩ := two hm
                refine .inr ⟨rfl, by rw [beq_eq_false_iff_ne]; exact o1, ?_⟩
                by_cases h2 : l.mp = 2
                · rw [if_pos h2] at o2
                  exact .inr ⟨by rw [h2]; rfl, decide_eq_false (by omega)⟩
                · rw [if_neg h2] at o2
                  exact .inl ⟨by rw [beq_eq_false_iff_ne]; exact h2, decide_eq_false (by omega)⟩
            clear ok two one HOK
            rcases d1 with ⟨hm, hb, hf, hs⟩ | ⟨hm, h0, ⟨h2, hs⟩ | ⟨h2, hs⟩⟩
            · rw [hm] at c1
              rw [hb] at c2
              rw [hf] at c3
              cases h2 : (l.mp == 2)
              all_goals
                go_wp2_with fail
                refine (awake7_any _).mono ?_
                rintro e w4 ⟨rfl, K4⟩
                go_wp2
                go_ret
                exact ⟨rfl, grown_trans G2 K4⟩
            all_goals
              rw [hm] at c1
              go_wp2_with fail
              refine (awake7_any _).mono ?_
              rintro e w4 ⟨rfl, K4⟩
              go_wp2
              go_ret
              exact ⟨rfl, grown_trans G2 K4⟩

set_option maxRecDepth 100000 in
theorem lifted (os : Os) (started : os.Started) (H : Type) (enc : TypeId × Value → H) :
    ReturnsInHanded {} Try.checked os 6 .any (Rows.frameBoundsSpec.pre6 enc Try.prog Try.f6 Rows.frameBoundsRow.domain false) (Rows.frameBoundsSpec.post enc Try.prog Try.f6 false true false false) := by
  refine returnsInHanded_of_change_sized (C := Try.checked) own started (by kernel_rfl) Try.func6
    (ChangeSpec.witness6 (enc := enc) (C := Try.checked) false ⟨#[], #[.agg #[.bool false, .bool false, .int .i64 0], .slice none 0 0], []⟩ 8 (by kernel_rfl) (by kernel_rfl) (by kernel_rfl) (by kernel_rfl)) ?_
  intro W base args ds gs before hval0 hW hcnd hsz0 _
  have hsz : (DataW.weightsEach Try.prog (Try.f6.params.toList ++ Rows.frameBoundsSpec.plain.varTypes Try.prog) (ds ++ gs)).all (· ≤ reachBytes) = true := hsz0
  have hval : ∀ (j : Nat) t v, Try.f6.params[j]? = some t → args[j]? = some v → Value.okWide Try.prog W .any base t v := hval0
  have hW' := hW
  obtain ⟨p, q, hA0, hV, rfl, hfz, hnd⟩ := hW
  have hA : DataW.TrodAll enc Try.prog W 0 (fun _ => true) true Try.f6.params.toList args.toList ds p := hA0
  rw [Try.params6] at hA hval hsz
  obtain ⟨v0, vs0, d0, ds0, p0, q0, hargs, rfl, rfl, h0, r0⟩ := trodAll_cons hA
  obtain ⟨v1, vs1, d1, ds1, p1, q1, rfl, rfl, rfl, h1, r1⟩ := trodAll_cons r0
  obtain ⟨rfl, rfl, rfl⟩ := trodAll_nil r1
  obtain rfl : args = #[v0, v1] := by cases args; simp_all
  obtain ⟨rfl, rfl⟩ := trodVars_none hV
  have k0 := h0
  have lt0 : ∀ x ∈ p0, x.block < W.heap.size := by obtain ⟨m, hm⟩ := k0; exact DataW.trod_lt m _ _ _ hm
  obtain ⟨x0, rfl⟩ := open_link h0
  obtain ⟨a1, len1, cap1, rfl⟩ := okWide_slice Try.underlying24 (hval 1 24 v1 rfl rfl)
  have k1 := h1
  have lt1 : ∀ x ∈ p1, x.block < W.heap.size := by obtain ⟨m, hm⟩ := k1; exact DataW.trod_lt m _ _ _ hm
  obtain ⟨xs1, rfl, hcells1, hnil1, hdat1⟩ := open_bytes Try.underlying24 Try.underlying5 (by kernel_rfl) h1
  have hlen1 : xs1.length * 1 ≤ 140737488351232 := by
    rcases hdat1 with ⟨_, rfl⟩ | ⟨elems, spare, rfl, hle⟩
    · simp
    · have := sized_slice hsz (j := 1) (t := 24) (e := 5) rfl rfl Try.underlying24
      rw [bytes5] at this
      unfold reachBytes at this
      omega
  clear hA0 hval0
  refine (walk x0 a1 cap1 xs1 W hcells1 hnil1 (by omega)).mono fun e W' ⟨he, hg⟩ => ?_
  subst he
  have bel : Below W.heap.size W W' := (Below.refl _ _).grown hg (Nat.le_refl _) (by simp)
  exact ⟨_, rfl, _, _, _, [], _, [], hW', trodAll_mk1 (shut_bool Try.underlying4 _), (trodAll_cons_mk (Below.trod laidOut (by kernel_rfl) (of_decide_eq_true (by kernel_rfl)) k0 bel lt0) (trodAll_cons_mk (Below.trod laidOut (by kernel_rfl) (of_decide_eq_true (by kernel_rfl)) k1 bel lt1) trodAll_mk0)), rfl, bel.frame _, fun h => by cases h⟩

theorem over : Rows.FrameBoundsSaid :=
  OpenClaim.holds_of_wide 6 Try.f6 rfl rfl rfl rfl rfl rfl rfl ⟨rfl, rfl, rfl, rfl, rfl⟩ rfl rfl rfl rfl rfl (by kernel_rfl) Try.func6 (by kernel_rfl)
    (of_decide_eq_true (by kernel_rfl)) (by unfold Func.isWrapper; first | (rw [if_pos (by decide +kernel)]; kernel_rfl) | (rw [if_neg (by decide +kernel)]; exact ⟨rfl, rfl⟩))
    (fun os started H enc _ => lifted os started H enc)

end frameBounds

theorem frameBounds_holds : Rows.FrameBoundsSaid := frameBounds.over
#print axioms frameBounds_holds
end Go.Proofs.Ytjjccbegljkkfaa
