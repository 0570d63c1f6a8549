/-
  The document's own clock: Tick.
-/
import Derived.Test.YtnkdcehnamkoaaaClV
import Derived.Deep.RegionHeld3
import Derived.Deep.DeepCutAuto
namespace Go.Proofs.Ytnkdcehnamkoaaa
open Go.RowKit
set_option maxRecDepth 100000

set_option maxHeartbeats 2000000 in
theorem rtick_any (w : World) (g : Nat) (c : Ck) (h : QBk w g 27 c.cells) (ok : c.ok) :
    Calls Try.prog 18 #[.pointer (some ⟨g, 0, none⟩)] w (Did 27 g w c.tickC (.int .i64 c.tickH)) := by
  have c2 := h.cell 2
  have c3 := h.cell 3
  simp [Ck.cells] at c2 c3
  cases hg : c.goes with
  | false =>
    have HR : Hid (Did 27 g w c.tickC (.int .i64 c.tickH) (.returned (.int .i64 0)) w) := by
      have e1 : c.tickH = 0 := by unfold Ck.tickH; rw [if_pos hg]
      have e2 : c.tickC = c := by unfold Ck.tickC; rw [if_pos hg]
      rw [e1, e2]
      exact ⟨rfl, h, GW.refl _ _⟩
    rw [hg] at c2
    clear h ok c3 hg
    go_enter Try.func18, Try.ntmps18
    go_wp2
    go_ret
    exact HR.out
  | true =>
    rw [hg] at c2
    have f3 := h.free 3
    have H : Hid (QBk w g 27 c.cells ∧ c.ok ∧ c.goes = true) := ⟨h, ok, hg⟩
    have CA := refadd1_any c.rest w ok.r
    clear h ok hg
    go_enter Try.func18, Try.ntmps18
    go_wp2_with fail
    refine CA.mono ?_
    rintro e w1 ⟨rfl, rfl⟩
    clear CA c2
    have HP : Hid (QBk (w.setCell ⟨g, 3, none⟩ (.int .u32 (upC c.rest : Int))) g 27 (Ck.cells ⟨c.idle, c.most, c.goes, upC c.rest, c.all⟩) ∧ GW w (w.setCell ⟨g, 3, none⟩ (.int .u32 (upC c.rest : Int))) (fun x => x = g)) := by
      obtain ⟨q, k⟩ := H.out.1.put 3 (.int .u32 (upC c.rest : Int))
      exact ⟨by simpa [Ck.cells] using q, k⟩
    go_upto_region 4 with fail
    clear c3 f3
    generalize w.setCell ⟨g, 3, none⟩ (.int .u32 (upC c.rest : Int)) = w2 at *
    have c4 := HP.out.1.cell 4
    have f4 := HP.out.1.free 4
    simp [Ck.cells] at c4
    have CA := refadd1_any c.all w2 H.out.2.1.a
    go_wp2_with fail
    refine CA.mono ?_
    rintro e w3 ⟨rfl, rfl⟩
    clear CA
    have HQ : Hid (QBk (w2.setCell ⟨g, 4, none⟩ (.int .u32 (upC c.all : Int))) g 27 c.up.cells ∧ GW w (w2.setCell ⟨g, 4, none⟩ (.int .u32 (upC c.all : Int))) (fun x => x = g)) := by
      obtain ⟨q, k⟩ := HP.out.1.put 4 (.int .u32 (upC c.all : Int))
      exact ⟨by simpa [Ck.cells, Ck.up] using q, HP.out.2.trans k (fun _ _ hx => hx)⟩
    go_upto_region 5 with fail
    clear c4 f4 HP
    generalize w2.setCell ⟨g, 4, none⟩ (.int .u32 (upC c.all : Int)) = w4 at *
    have d0 := HQ.out.1.cell 0
    have d1 := HQ.out.1.cell 1
    have d3 := HQ.out.1.cell 3
    have d4 := HQ.out.1.cell 4
    simp [Ck.cells, Ck.up] at d0 d1 d3 d4
    by_cases hi : c.hitI
    · have HC : Hid (c.tickH = 1 ∧ c.tickC = c.stop) := by
        refine ⟨?_, ?_⟩
        · unfold Ck.tickH; rw [if_neg (by rw [H.out.2.2]; decide), if_pos hi]
        · unfold Ck.tickC; rw [if_neg (by rw [H.out.2.2]; decide), if_pos hi]
      have i1 := hi.1
      have i2 := hi.2
      have i3 : ¬ (upC c.rest < c.idle) := by omega
      have i4 : ((c.idle : Int) != 0) = true := by rw [bne_iff_ne]; omega
      clear hi
      go_quiet (fail)
      clear d0 d1 d3 d4
      have HZ : Hid (QBk (w4.drewN nq) g 27 c.up.cells ∧ GW w (w4.drewN nq) (fun x => x = g)) := ⟨HQ.out.1.kept (grown_drewN w4 nq none) (by simp), HQ.out.2.trans (GW.of (grown_drewN w4 nq none) (fun x hx => by cases hx)) (fun _ _ hx => hx)⟩
      clear HQ
      generalize w4.drewN nq = w5 at *
      have CS := rstop_any w5 g c.up HZ.out.1
      go_wp2_with fail
      refine CS.mono ?_
      rintro e w6 ⟨rfl, Q, G⟩
      have HR : Hid (Did 27 g w c.tickC (.int .i64 c.tickH) (.returned (.int .i64 1)) w6) := by
        rw [HC.out.1, HC.out.2]
        exact ⟨rfl, Q, HZ.out.2.trans G (fun _ _ hx => hx)⟩
      clear CS Q G HZ HC H i1 i2 i3 i4
      go_wp2
      go_ret
      exact HR.out
    · have i4 : ((c.idle : Int) != 0) = false ∨ (((c.idle : Int) != 0) = true ∧ ¬ c.idle ≤ upC c.rest) := by
        by_cases h0 : c.idle = 0
        · exact .inl (by rw [h0]; rfl)
        · refine .inr ⟨by rw [bne_iff_ne]; omega, ?_⟩
          exact fun h1 => hi ⟨h0, h1⟩
      have HT : Hid (c.tickH = (if c.hitM then 2 else 0) ∧ c.tickC = (if c.hitM then c.stop else c.up)) := by
        refine ⟨?_, ?_⟩
        · unfold Ck.tickH; rw [if_neg (by rw [H.out.2.2]; decide), if_neg hi]
        · unfold Ck.tickC; rw [if_neg (by rw [H.out.2.2]; decide), if_neg hi]
      clear hi
      rcases i4 with i4 | ⟨i4, i5⟩
      · go_quiet (fail)
        clear d0 d3
        have HZ : Hid (QBk (w4.drewN nq) g 27 c.up.cells ∧ GW w (w4.drewN nq) (fun x => x = g)) := ⟨HQ.out.1.kept (grown_drewN w4 nq none) (by simp), HQ.out.2.trans (GW.of (grown_drewN w4 nq none) (fun x hx => by cases hx)) (fun _ _ hx => hx)⟩
        go_upto_region 8 with fail
        clear HQ d1 d4 i4
        generalize w4.drewN nq = w5 at *
        have d1 := HZ.out.1.cell 1
        have d4 := HZ.out.1.cell 4
        simp [Ck.cells, Ck.up] at d1 d4
        by_cases hm : c.hitM
        · rw [if_pos hm, if_pos hm] at HT
          have i1 := hm.1
          have i2 := hm.2
          have i3 : ¬ (upC c.all < c.most) := by omega
          have i6 : ((c.most : Int) != 0) = true := by rw [bne_iff_ne]; omega
          clear hm
          go_quiet (fail)
          clear d1 d4
          have HY : Hid (QBk (w5.drewN nq) g 27 c.up.cells ∧ GW w (w5.drewN nq) (fun x => x = g)) := ⟨HZ.out.1.kept (grown_drewN w5 nq none) (by simp), HZ.out.2.trans (GW.of (grown_drewN w5 nq none) (fun x hx => by cases hx)) (fun _ _ hx => hx)⟩
          clear HZ
          generalize w5.drewN nq = w6 at *
          have CS := rstop_any w6 g c.up HY.out.1
          go_wp2_with fail
          refine CS.mono ?_
          rintro e w7 ⟨rfl, Q, G⟩
          have HR : Hid (Did 27 g w c.tickC (.int .i64 c.tickH) (.returned (.int .i64 2)) w7) := by
            rw [HT.out.1, HT.out.2]
            exact ⟨rfl, Q, HY.out.2.trans G (fun _ _ hx => hx)⟩
          clear CS Q G HY HT H i1 i2 i3 i6
          go_wp2
          go_ret
          exact HR.out
        · rw [if_neg hm, if_neg hm] at HT
          have i6 : ((c.most : Int) != 0) = false ∨ (((c.most : Int) != 0) = true ∧ ¬ c.most ≤ upC c.all) := by
            by_cases h0 : c.most = 0
            · exact .inl (by rw [h0]; rfl)
            · refine .inr ⟨by rw [bne_iff_ne]; omega, ?_⟩
              exact fun h1 => hm ⟨h0, h1⟩
          clear hm
          have HR : Hid (∀ n, Did 27 g w c.tickC (.int .i64 c.tickH) (.returned (.int .i64 0)) (w5.drewN n)) := fun n => by
            rw [HT.out.1, HT.out.2]
            exact ⟨rfl, HZ.out.1.kept (grown_drewN w5 n none) (by simp), HZ.out.2.trans (GW.of (grown_drewN w5 n none) (fun x hx => by cases hx)) (fun _ _ hx => hx)⟩
          clear HZ HT H
          rcases i6 with i6 | ⟨i6, i7⟩
          · go_quiet (fail)
            go_wp2
            go_ret
            exact HR.out _
          · go_quiet (fail)
            go_wp2
            go_ret
            exact HR.out _
      · go_quiet (fail)
        clear d0 d3
        have HZ : Hid (QBk (w4.drewN nq) g 27 c.up.cells ∧ GW w (w4.drewN nq) (fun x => x = g)) := ⟨HQ.out.1.kept (grown_drewN w4 nq none) (by simp), HQ.out.2.trans (GW.of (grown_drewN w4 nq none) (fun x hx => by cases hx)) (fun _ _ hx => hx)⟩
        go_upto_region 8 with fail
        clear HQ d1 d4 i4 i5
        generalize w4.drewN nq = w5 at *
        have d1 := HZ.out.1.cell 1
        have d4 := HZ.out.1.cell 4
        simp [Ck.cells, Ck.up] at d1 d4
        by_cases hm : c.hitM
        · rw [if_pos hm, if_pos hm] at HT
          have i1 := hm.1
          have i2 := hm.2
          have i3 : ¬ (upC c.all < c.most) := by omega
          have i6 : ((c.most : Int) != 0) = true := by rw [bne_iff_ne]; omega
          clear hm
          go_quiet (fail)
          clear d1 d4
          have HY : Hid (QBk (w5.drewN nq) g 27 c.up.cells ∧ GW w (w5.drewN nq) (fun x => x = g)) := ⟨HZ.out.1.kept (grown_drewN w5 nq none) (by simp), HZ.out.2.trans (GW.of (grown_drewN w5 nq none) (fun x hx => by cases hx)) (fun _ _ hx => hx)⟩
          clear HZ
          generalize w5.drewN nq = w6 at *
          have CS := rstop_any w6 g c.up HY.out.1
          go_wp2_with fail
          refine CS.mono ?_
          rintro e w7 ⟨rfl, Q, G⟩
          have HR : Hid (Did 27 g w c.tickC (.int .i64 c.tickH) (.returned (.int .i64 2)) w7) := by
            rw [HT.out.1, HT.out.2]
            exact ⟨rfl, Q, HY.out.2.trans G (fun _ _ hx => hx)⟩
          clear CS Q G HY HT H i1 i2 i3 i6
          go_wp2
          go_ret
          exact HR.out
        · rw [if_neg hm, if_neg hm] at HT
          have i6 : ((c.most : Int) != 0) = false ∨ (((c.most : Int) != 0) = true ∧ ¬ c.most ≤ upC c.all) := by
            by_cases h0 : c.most = 0
            · exact .inl (by rw [h0]; rfl)
            · refine .inr ⟨by rw [bne_iff_ne]; omega, ?_⟩
              exact fun h1 => hm ⟨h0, h1⟩
          clear hm
          have HR : Hid (∀ n, Did 27 g w c.tickC (.int .i64 c.tickH) (.returned (.int .i64 0)) (w5.drewN n)) := fun n => by
            rw [HT.out.1, HT.out.2]
            exact ⟨rfl, HZ.out.1.kept (grown_drewN w5 n none) (by simp), HZ.out.2.trans (GW.of (grown_drewN w5 n none) (fun x hx => by cases hx)) (fun _ _ hx => hx)⟩
          clear HZ HT H
          rcases i6 with i6 | ⟨i6, i7⟩
          · go_quiet (fail)
            go_wp2
            go_ret
            exact HR.out _
          · go_quiet (fail)
            go_wp2
            go_ret
            exact HR.out _

end Go.Proofs.Ytnkdcehnamkoaaa
