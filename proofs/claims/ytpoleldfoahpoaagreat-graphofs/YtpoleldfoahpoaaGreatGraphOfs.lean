/-
  For every list of instructions riddlelaw15.GraphOfs returns true and leaves what was there as it was: no condition of ours.
-/
import Derived.Test.YtpoleldfoahpoaaGreatLotP39
import Derived.Test.YtpoleldfoahpoaaGreatLotP37
import Derived.Test.YtpoleldfoahpoaaGreatLotP38
import Derived.Deep.RegionHeld3
namespace Go.Proofs.YtpoleldfoahpoaaGreat
open Go.ChangeShapes Go.WideShapes Go.ChangeAt Go.RowKit
set_option maxRecDepth 100000
namespace graphOfs

theorem blk_code (xs : List In) (nm : Nat → Nat) (fr i : Nat) (x : In) : (blkV xs nm fr i x).code.length ≤ xs.length := by
  have h : ∀ m, ((xs.drop fr).take m).length ≤ xs.length := fun m => by rw [List.length_take, List.length_drop]; omega
  unfold blkV
  split
  · exact h _
  · split
    · exact h _
    · split
      · exact h _
      · exact h _
theorem of_codes (xs : List In) (nm : Nat → Nat) (k : Nat) : ∀ b ∈ (ofTo xs nm k).2, b.code.length ≤ xs.length := by
  induction k with
  | zero => intro b hb; cases hb
  | succ k ih =>
    intro b hb
    rw [ofTo] at hb
    split at hb
    · exact ih b hb
    · rcases List.mem_append.1 hb with h | h
      · exact ih b h
      · simp only [List.mem_singleton] at h
        rw [h]
        exact blk_code _ _ _ _ _
theorem of_small {xs : List In} {vs : List Bv} (h : gOf vs = ofG xs) : vs.length ≤ 4096 ∧ ∀ y ∈ vs, y.b.code.length ≤ 4096 := by
  by_cases hz : (checkV xs).2 = 0
  · have hn := (taken hz).2.1
    rw [ofG, if_pos hz] at h
    constructor
    · have h1 := congrArg List.length h
      rw [gOf_len] at h1
      have h2 := ofTo_len xs (numN (begTo xs xs.length)) xs.length
      omega
    · intro y hy
      have h1 : y.b ∈ (ofTo xs (numN (begTo xs xs.length)) xs.length).2 := by rw [← h]; exact List.mem_map.2 ⟨y, hy, rfl⟩
      have := of_codes _ _ _ _ h1
      omega
  · rw [ofG, if_neg hz] at h
    have h1 := congrArg List.length h
    rw [gOf_len] at h1
    have : vs = [] := List.eq_nil_of_length_eq_zero h1
    subst this
    exact ⟨Nat.zero_le _, fun y hy => by cases hy⟩

/-- Where owned blocks lie. -/
def BR (v : Value) (xs : List Bv) (lo hi : Nat) : Prop := (∀ q, v.ownBlock = some q → lo ≤ q ∧ q < hi) ∧ ∀ y ∈ xs, ∀ q, (Value.slice y.a y.b.code.length y.ca).ownBlock = some q → lo ≤ q ∧ q < hi
theorem br_of {w : World} {base : Nat} {v : Value} {xs : List Bv} (h : BLv w base v xs) : BR v xs base w.heap.size := ⟨fun q hq => h.1.lt q hq, fun y hy q hq => (h.2.1 y hy).lt q hq⟩
theorem blv_keep {w w' : World} {base lo hi z : Nat} {v : Value} {xs : List Bv} (h : BLv w base v xs) (hb : BR v xs lo hi) (K : w.grownBy w' (some z)) (hz : z < lo ∨ hi ≤ z) : BLv w' base v xs := by
  have hk : ∀ {e size n : Nat} {u : Value} {vs : List Value}, (∀ q, u.ownBlock = some q → lo ≤ q ∧ q < hi) → w.ownsRow base e size u n vs → w'.ownsRow base e size u n vs := fun {e size n u vs} hu O => by
    refine O.kept K ?_
    cases hq : u.ownBlock with
    | none => exact .inl rfl
    | some q => exact .inr (fun e => by have := hu q hq; simp only [Option.some.injEq] at e; omega)
  exact ⟨hk hb.1 h.1, fun y hy => hk (hb.2 y hy) (h.2.1 y hy), h.2.2⟩
theorem blv_own {w w' : World} {base lo hi : Nat} {v u : Value} {xs : List Bv} (h : BLv w base v xs) (hb : BR v xs lo hi) (K : w.grownBy w' u.ownBlock) (hz : ∀ z, u.ownBlock = some z → z < lo ∨ hi ≤ z) : BLv w' base v xs := by
  cases hq : u.ownBlock with
  | none => rw [hq] at K; exact h.keptNone K
  | some z => rw [hq] at K; exact blv_keep h hb K (hz z hq)
theorem row_own {w w' : World} {base n : Nat} {v u : Value} {us : List Value} (h : w.ownsRow base 56 8 v n us) (hS : SpI w u) (K : w.grownBy w' u.ownBlock) : w'.ownsRow base 56 8 v n us := by
  refine h.kept K ?_
  rcases h.2 with ⟨rfl, -⟩ | ⟨g3, cap3, cur3, rfl, -, hg3, -⟩
  · exact .inl rfl
  · refine .inr (fun e => ?_)
    rcases hS with h | ⟨g2, n2, cap2, h, ⟨cur, hb, -⟩, -⟩
    · rw [h] at e; cases e
    · rw [h] at e
      simp only [Value.ownBlock, Option.some.injEq] at e
      subst e
      rw [hb] at hg3
      simp only [Option.some.injEq, Obj.cells.injEq] at hg3
      exact absurd hg3.2.1 (by decide)
theorem blv_lo {w w' : World} {base lo hi lo' hi' : Nat} {v : Value} {xs : List Bv} (h : BLv w base v xs) (hb : BR v xs lo' hi') (L : Lo w lo hi w') (hz : hi' ≤ lo ∨ hi ≤ lo') : BLv w' base v xs :=
  ⟨L.owns h.1 (fun q hq => by have := hb.1 q hq; omega), fun y hy => L.owns (h.2.1 y hy) (fun q hq => by have := hb.2 y hy q hq; omega), h.2.2⟩

set_option maxHeartbeats 8000000 in
theorem walk (a : Option Addr) (ca : Nat) (xs : List In) (w : World) (ha : CV w a (flat xs)) (hc0 : a = none → ca = 0) (_hca : xs.length ≤ ca) (_hcm : ca ≤ maxLen) (hn : xs.length * 8 ≤ 140737488351232) :
    Calls Tryz.prog 6 #[.slice a xs.length ca] w fun e w' => e = .returned (.bool true) ∧ w.grownBy w' none := by
  have CW := refof_any a ca xs w ha
  have H : Hid (CV w a (flat xs)) := ha
  obtain ⟨E, hE⟩ : ∃ E, ofE xs = E := ⟨_, rfl⟩
  have HE : Hid (ofE xs = E) := hE
  rw [hE] at CW
  clear ha hE
  go_enter Tryz.func6, Tryz.ntmps6
  go_wp2_with fail
  refine CW.mono ?_
  rintro e w1 ⟨vw, ws, rfl, BW, hw, G1⟩
  have HWG : Hid (gOf ws = ofG xs) := hw
  clear CW hw
  go_wp2_with fail
  refine (ilend_any a ca xs w1 (H.out.keptNone G1) hc0 hn).mono ?_
  rintro e w2 ⟨v2, rfl, ⟨g, cap, rfl, hcap, -, hg1, hg2, hown⟩, K2⟩
  have C2 := (icv_front hown).1
  have CX := of_any (some ⟨g, 0, none⟩) cap xs w2 C2 (by omega)
  unfold OfP at CX
  rw [HE.out] at CX
  have G2 := grown_trans G1 K2
  have BW2 := BW.keptNone K2
  have HRW : Hid (BR vw ws w.heap.size w1.heap.size) := br_of BW
  have hw1 := G1.size
  clear BW G1 K2 C2
  go_wp2_with fail
  refine CX.mono ?_
  rintro e w3 ⟨vx, vs, rfl, BX, hx, K3⟩
  have HXG : Hid (gOf vs = ofG xs) := hx
  have G3 := grown_trans G2 K3
  have BW3 := BW2.keptNone K3
  have CK := ikept_any g cap a ca xs w3 (owns_mono (owns_keptNone hown K3) (Nat.zero_le _)) (H.out.keptNone G3) hn
  have hgw : w.heap.size ≤ g := by omega
  have hw23 := K3.size
  clear CX G2 BW2 K3 hx hown
  go_wp2_with fail
  refine CK.mono ?_
  rintro e w4 ⟨rfl, K4⟩
  have G4 : w.grownBy w4 none := grown_trans_new G3 K4 (fun z e => by cases e; exact hgw)
  have HRX : Hid (BR vx vs w2.heap.size w3.heap.size) := br_of BX
  have BX4 := blv_keep BX HRX.out K4 (.inl hg2)
  have BW4 := blv_keep BW3 HRW.out K4 (.inr hg1)
  have hw34 := K4.size
  clear CK BX BW3 K4 G3
  go_wp2_with fail
  refine (icopy_any a ca xs w4 (H.out.keptNone G4) hc0 (by omega)).mono ?_
  rintro e w5 ⟨v5, rfl, O5, K5⟩
  obtain ⟨a5, c5, rfl, C5, hc5, -⟩ := cv_of_row O5
  have CY := of_any a5 c5 xs w5 C5 hc5
  unfold OfP at CY
  rw [HE.out] at CY
  have G5 := grown_trans G4 K5
  have BX5 := BX4.keptNone K5
  have BW5 := BW4.keptNone K5
  have hw45 := K5.size
  clear O5 C5 K5 G4 BX4 BW4
  go_wp2_with fail
  refine CY.mono ?_
  rintro e w6 ⟨vy, us, rfl, BY, hy, K6⟩
  have HYG : Hid (gOf us = ofG xs) := hy
  have HRY : Hid (BR vy us w5.heap.size w6.heap.size) := br_of BY
  have G6 := grown_trans G5 K6
  have BX6 := BX5.keptNone K6
  have BW6 := BW5.keptNone K6
  have hw56 := K6.size
  have sm := of_small HXG.out
  have sw := of_small HWG.out
  have sy := of_small HYG.out
  obtain ⟨ax, cx, hvx, GX, -⟩ := BX6.gc
  obtain ⟨aw, cw, hvw, GW, -⟩ := BW6.gc
  have CS := bsameb_any ax aw cx cw vs ws w6 GX GW (HXG.out.trans HWG.out.symm) (by omega) (fun y hy => by have := sm.2 y hy; omega)
  rw [← hvx, ← hvw] at CS
  clear CY G5 BX5 BW5 K6 hy GX GW hvx hvw
  go_wp2_with fail
  refine CS.mono ?_
  rintro e w7 ⟨rfl, n7, rfl⟩
  have K7 := grown_drewN w6 n7 none
  have G7 := grown_trans G6 K7
  have BX7 := BX6.keptNone K7
  have BW7 := BW6.keptNone K7
  have BY7 := BY.keptNone K7
  generalize w6.drewN n7 = w7 at *
  clear CS K7 G6 BX6 BW6 BY
  obtain ⟨ax, cx, rfl, -⟩ := BX7.gc
  obtain ⟨aw, cw, rfl, -⟩ := BW7.gc
  have HLW : Hid (ws.length = vs.length) := by
    have h1 := congrArg List.length (HXG.out.trans HWG.out.symm)
    rw [gOf_len, gOf_len] at h1
    exact h1.symm
  have HIX : Hid (∀ j (hj : j < vs.length), 0 ≤ j → IOwns w7 w2.heap.size (.slice vs[j].a vs[j].b.code.length vs[j].ca) vs[j].b.code) := fun j hj _ => BX7.2.1 _ (List.getElem_mem hj)
  have HSX : Hid (∀ j (hj : j < vs.length), SpI w7 (.slice vs[j].a vs[j].b.code.length vs[j].ca)) := fun j hj => SpI.of (BX7.2.1 _ (List.getElem_mem hj)) (by have := sm.2 _ (List.getElem_mem hj); omega)
  have HRR : Hid (w7.ownsRow w2.heap.size 56 8 (.slice ax vs.length cx) vs.length (flatB vs)) := BX7.1
  have HAP : Hid (Apart vs) := BX7.2.2
  have HBW : Hid (BLv w7 w.heap.size (.slice aw ws.length cw) ws) := BW7
  have HBY : Hid (BLv w7 w5.heap.size vy us) := BY7
  have HSM : Hid (∀ y ∈ vs, y.b.code.length ≤ 4096) := sm.2
  clear BX7 BW7 BY7 sw sy
  go_wp2
  go_loopw [10] (fun i wr => ∃ k : Nat, k ≤ vs.length ∧ i = .int .i64 k ∧ Hid (wr.ownsRow w2.heap.size 56 8 (.slice ax vs.length cx) vs.length (flatB vs)) ∧ Hid (∀ j (hj : j < vs.length), k ≤ j → IOwns wr w2.heap.size (.slice vs[j].a vs[j].b.code.length vs[j].ca) vs[j].b.code) ∧ Hid (∀ j (hj : j < vs.length), SpI wr (.slice vs[j].a vs[j].b.code.length vs[j].ca)) ∧ Hid (BLv wr w.heap.size (.slice aw ws.length cw) ws) ∧ Hid (BLv wr w5.heap.size vy us) ∧ w.grownBy wr none) (fun i _ => vs.length - (intOf i).toNat)
  case atStart => exact ⟨0, Nat.zero_le _, rfl, HRR, HIX, HSX, HBW, HBY, G7⟩
  case round =>
    clear HRR HIX HSX HBW HBY G7
    obtain ⟨k, hk, rfl, HRR, HIX, HSX, HBW, HBY, G⟩ := hrel
    by_cases hlt : k < vs.length
    · have hl : (k : Int) < (vs.length : Int) := by omega
      obtain ⟨gx, cap', hge, hc1, hc2, hgx1, hgx2⟩ := owns_head HRR.out (by omega)
      simp only [Value.slice.injEq] at hge
      obtain ⟨rfl, -, rfl⟩ := hge
      have c0 : wr.cell? ⟨gx, k * 8, none⟩ = some (.slice vs[k].a vs[k].b.code.length vs[k].ca) := by
        have := HRR.out.cells (g := gx) rfl (k * 8 + 0) (.slice vs[k].a vs[k].b.code.length vs[k].ca) (by rw [flatB_get vs k 0 hlt (by omega)]; rfl)
        rwa [Addr.add_lit, Nat.zero_add, Nat.add_zero] at this
      have CS := spi_any wr (HSX.out k hlt)
      have HLk : Hid (∀ z, (Value.slice vs[k].a vs[k].b.code.length vs[k].ca).ownBlock = some z → w2.heap.size ≤ z ∧ z < w3.heap.size) := fun z hz => HRX.out.2 _ (List.getElem_mem hlt) z hz
      have HAk : Hid (∀ j (hj : j < vs.length), j ≠ k → ∀ z, (Value.slice vs[j].a vs[j].b.code.length vs[j].ca).ownBlock = some z → (Value.slice vs[k].a vs[k].b.code.length vs[k].ca).ownBlock ≠ some z) := fun j hj hjk z hz e => by
        rw [own15] at hz e
        by_cases hlt2 : k < j
        · exact (List.pairwise_iff_getElem.1 HAP.out) k j hlt hj hlt2 z e hz
        · exact (List.pairwise_iff_getElem.1 HAP.out) j k hj hlt (by omega) z hz e
      have HCN := HSX.out k hlt
      have HCI := HIX.out k hlt (Nat.le_refl _)
      obtain ⟨cv, hcv⟩ : ∃ cv, Value.slice vs[k].a vs[k].b.code.length vs[k].ca = cv := ⟨_, rfl⟩
      have HCV : Hid (Value.slice vs[k].a vs[k].b.code.length vs[k].ca = cv) := hcv
      rw [hcv] at c0 CS HLk HAk HCN HCI
      clear hcv
      obtain ⟨av, nv', cv', hcve, -⟩ : ∃ av nv' cv', cv = .slice av nv' cv' ∧ True := by
        rw [← HCV.out]; exact ⟨_, _, _, rfl, trivial⟩
      subst hcve
      go_wp2_with fail
      refine CS.mono ?_
      rintro e w8 ⟨rfl, K8, S8⟩
      have HR8 : Hid (w8.ownsRow w2.heap.size 56 8 (.slice (some ⟨gx, 0, none⟩) vs.length cx) vs.length (flatB vs)) := row_own HRR.out HCN K8
      have HI8 : Hid (∀ j (hj : j < vs.length), k + 1 ≤ j → IOwns w8 w2.heap.size (.slice vs[j].a vs[j].b.code.length vs[j].ca) vs[j].b.code) := fun j hj hkj => (HIX.out j hj (by omega)).kept K8 (by
        cases hq : (Value.slice vs[j].a vs[j].b.code.length vs[j].ca).ownBlock with
        | none => exact .inl rfl
        | some z => exact .inr (fun e => HAk.out j hj (by omega) z hq e.symm))
      have HS8 : Hid (∀ j (hj : j < vs.length), SpI w8 (.slice vs[j].a vs[j].b.code.length vs[j].ca)) := fun j hj => by
        by_cases hjk : j = k
        · subst hjk
          rw [HCV.out]
          exact S8
        · exact (HSX.out j hj).kept K8 (fun z hz e => HAk.out j hj hjk z hz e)
      have HW8 : Hid (BLv w8 w.heap.size (.slice aw ws.length cw) ws) := blv_own HBW.out HRW.out K8 (fun z hz => by have := HLk.out z hz; omega)
      have HY8 : Hid (BLv w8 w5.heap.size vy us) := blv_own HBY.out HRY.out K8 (fun z hz => by have := HLk.out z hz; omega)
      have G8 : w.grownBy w8 none := grown_trans_new G K8 (fun z hz => by have := HLk.out z hz; omega)
      clear CS K8 S8 HRR HIX HSX HBW HBY G HCN HCI c0 HLk HAk HCV
      by_cases hl1 : k + 1 < vs.length
      · have hl2 : (k : Int) + 1 < (vs.length : Int) := by omega
        have hl3 : ((k : Int) + 1).toNat = k + 1 := by omega
        have hlw : (k : Int) + 1 < (ws.length : Int) := by have := HLW.out; omega
        have hkw : k + 1 < ws.length := by have := HLW.out; omega
        obtain ⟨gw, cap', hge, -⟩ := owns_head HW8.out.1 (by omega)
        simp only [Value.slice.injEq] at hge
        obtain ⟨rfl, -, rfl⟩ := hge
        have e1 : w8.cell? ⟨gx, (k + 1) * 8, none⟩ = some (.slice vs[k + 1].a vs[k + 1].b.code.length vs[k + 1].ca) := by
          have := HR8.out.cells (g := gx) rfl ((k + 1) * 8 + 0) (.slice vs[k + 1].a vs[k + 1].b.code.length vs[k + 1].ca) (by rw [flatB_get vs (k + 1) 0 hl1 (by omega)]; rfl)
          rwa [Addr.add_lit, Nat.zero_add, Nat.add_zero] at this
        have hbb : ws[k + 1].b = vs[k + 1].b := by
          have := congrArg (fun z => z[k + 1]?) (HWG.out.trans HXG.out.symm)
          simpa [gOf, hl1, hkw] using this
        have f1 : w8.cell? ⟨gw, (k + 1) * 8, none⟩ = some (.slice ws[k + 1].a vs[k + 1].b.code.length ws[k + 1].ca) := by
          have := HW8.out.1.cells (g := gw) rfl ((k + 1) * 8 + 0) (.slice ws[k + 1].a ws[k + 1].b.code.length ws[k + 1].ca) (by rw [flatB_get ws (k + 1) 0 hkw (by omega)]; rfl)
          rw [Addr.add_lit, Nat.zero_add, Nat.add_zero, hbb] at this
          exact this
        obtain ⟨x1, x2, hx3, CX, -⟩ := cv_of_row (HI8.out (k + 1) hl1 (Nat.le_refl _))
        simp only [Value.slice.injEq] at hx3
        obtain ⟨hx4, -, hx5⟩ := hx3
        obtain ⟨y1, y2, hy3, CWW, -⟩ := cv_of_row (HW8.out.2.1 _ (List.getElem_mem hkw))
        simp only [Value.slice.injEq] at hy3
        obtain ⟨hy4, -, hy5⟩ := hy3
        rw [← hx4] at CX
        rw [← hy4, hbb] at CWW
        have hcm1 := HSM.out _ (List.getElem_mem hl1)
        have HCS : Hid (∀ W, w8.grownBy W none → Calls Tryz.prog 33 #[.slice vs[k + 1].a vs[k + 1].b.code.length vs[k + 1].ca, .slice ws[k + 1].a vs[k + 1].b.code.length ws[k + 1].ca] W fun e w' => e = .returned (.bool true) ∧ W.grownBy w' none) := fun W GW => by
          refine (isame_any vs[k + 1].a ws[k + 1].a vs[k + 1].ca ws[k + 1].ca vs[k + 1].b.code W (CX.keptNone GW) (CWW.keptNone GW) (by omega)).mono ?_
          rintro e w' ⟨rfl, n, rfl⟩
          exact ⟨rfl, grown_drewN _ _ _⟩
        clear hx4 hx5 hy4 hy5 CX CWW hcm1 hbb
        generalize Value.slice vs[k + 1].a vs[k + 1].b.code.length vs[k + 1].ca = s1 at *
        generalize Value.slice ws[k + 1].a vs[k + 1].b.code.length ws[k + 1].ca = s2 at *
        go_upto_region 13 with fail
        have hnn : ¬ (k : Int) + 1 < 0 := by omega
        have hwr : IntKind.i64.wrap ((k : Int) + 1) = (k : Int) + 1 := by have := sm.1; rw [IntKind.wrap_i64]; omega
        refine wp_region_held_drew (S := fun V => V.cell? ⟨gx, (k + 1) * 8, none⟩ = some s1 ∧ V.cell? ⟨gw, (k + 1) * 8, none⟩ = some s2 ∧ w8.grownBy V none) (by kernel_rfl) (⟨(grown_drewN w8 1 none).cell e1 (by simp), (grown_drewN w8 1 none).cell f1 (by simp), grown_drewN w8 1 none⟩) (fun hHeld => ?_)
        refine wpAnyH_take (i := 0) (v := .int .i64 (k : Int)) rfl (by kernel_rfl) (by kernel_rfl) (by kernel_rfl) (fun _ _ _ h => h) (Or.inl ⟨by rfl, fun W hW => ?_⟩) hHeld ?_
        · clear hW
          go_simp
        try simp only [Act.put, List.getElem_toArray, List.getElem_cons_zero, List.setIfInBounds_toArray, List.set_cons_zero, List.set_cons_succ]
        refine wpAnyH_take (i := 1) (v := .int .i64 ((k : Int) + 1)) rfl (by kernel_rfl) (by kernel_rfl) (by kernel_rfl) (fun _ _ _ h => h) (Or.inl ⟨by rfl, fun W hW => ?_⟩) hHeld ?_
        · clear hW
          go_simp
        try simp only [Act.put, List.getElem_toArray, List.getElem_cons_zero, List.getElem_cons_succ, List.setIfInBounds_toArray, List.set_cons_zero, List.set_cons_succ]
        refine wpAnyH_take (i := 2) (v := .slice (some ⟨gx, 0, none⟩) vs.length cx) rfl (by kernel_rfl) (by kernel_rfl) (by kernel_rfl) (fun _ _ _ h => h) (Or.inl ⟨by rfl, fun W hW => ?_⟩) hHeld ?_
        · clear hW
          go_simp
        try simp only [Act.put, List.getElem_toArray, List.getElem_cons_zero, List.getElem_cons_succ, List.setIfInBounds_toArray, List.set_cons_zero, List.set_cons_succ]
        refine wpAnyH_take (i := 3) (v := .int .i64 (vs.length : Int)) rfl (by kernel_rfl) (by kernel_rfl) (by kernel_rfl) (fun _ _ _ h => h) (Or.inl ⟨by rfl, fun W hW => ?_⟩) hHeld ?_
        · clear hW
          go_simp
        try simp only [Act.put, List.getElem_toArray, List.getElem_cons_zero, List.getElem_cons_succ, List.setIfInBounds_toArray, List.set_cons_zero, List.set_cons_succ]
        refine wpAnyH_take (i := 4) (v := .bool true) rfl (by kernel_rfl) (by kernel_rfl) (by kernel_rfl) (fun _ _ _ h => h) (Or.inl ⟨by rfl, fun W hW => ?_⟩) hHeld ?_
        · clear hW
          go_simp
        try simp only [Act.put, List.getElem_toArray, List.getElem_cons_zero, List.getElem_cons_succ, List.setIfInBounds_toArray, List.set_cons_zero, List.set_cons_succ]
        refine wpAnyH_take (i := 5) (v := .bool true) rfl (by kernel_rfl) (by kernel_rfl) (by kernel_rfl) (fun _ _ _ h => h) (Or.inl ⟨by rfl, fun W hW => ?_⟩) hHeld ?_
        · clear hW
          go_simp
        try simp only [Act.put, List.getElem_toArray, List.getElem_cons_zero, List.getElem_cons_succ, List.setIfInBounds_toArray, List.set_cons_zero, List.set_cons_succ]
        refine wpAnyH_take (i := 6) (v := .slice (some ⟨gx, 0, none⟩) vs.length cx) rfl (by kernel_rfl) (by kernel_rfl) (by kernel_rfl) (fun _ _ _ h => h) (Or.inl ⟨by rfl, fun W hW => ?_⟩) hHeld ?_
        · clear hW
          go_simp
        try simp only [Act.put, List.getElem_toArray, List.getElem_cons_zero, List.getElem_cons_succ, List.setIfInBounds_toArray, List.set_cons_zero, List.set_cons_succ]
        refine wpAnyH_take (i := 7) (v := .int .i64 (k : Int)) rfl (by kernel_rfl) (by kernel_rfl) (by kernel_rfl) (fun _ _ _ h => h) (Or.inl ⟨by rfl, fun W hW => ?_⟩) hHeld ?_
        · clear hW
          go_simp
        try simp only [Act.put, List.getElem_toArray, List.getElem_cons_zero, List.getElem_cons_succ, List.setIfInBounds_toArray, List.set_cons_zero, List.set_cons_succ]
        refine wpAnyH_take (i := 8) (v := .int .i64 ((k : Int) + 1)) rfl (by kernel_rfl) (by kernel_rfl) (by kernel_rfl) (fun _ _ _ h => h) (Or.inl ⟨by rfl, fun W hW => ?_⟩) hHeld ?_
        · clear hW
          go_simp
        try simp only [Act.put, List.getElem_toArray, List.getElem_cons_zero, List.getElem_cons_succ, List.setIfInBounds_toArray, List.set_cons_zero, List.set_cons_succ]
        refine wpAnyH_take (i := 9) (v := .pointer (some ⟨gx, (k + 1) * 8, none⟩)) rfl (by kernel_rfl) (by kernel_rfl) (by kernel_rfl) (fun _ _ _ h => h) (Or.inl ⟨by rfl, fun W hW => ?_⟩) hHeld ?_
        · clear hW
          go_simp
        try simp only [Act.put, List.getElem_toArray, List.getElem_cons_zero, List.getElem_cons_succ, List.setIfInBounds_toArray, List.set_cons_zero, List.set_cons_succ]
        refine wpAnyH_take (i := 10) (v := .pointer (some ⟨gx, (k + 1) * 8, none⟩)) rfl (by kernel_rfl) (by kernel_rfl) (by kernel_rfl) (fun _ _ _ h => h) (Or.inl ⟨by rfl, fun W hW => ?_⟩) hHeld ?_
        · clear hW
          go_simp
        try simp only [Act.put, List.getElem_toArray, List.getElem_cons_zero, List.getElem_cons_succ, List.setIfInBounds_toArray, List.set_cons_zero, List.set_cons_succ]
        refine wpAnyH_take (i := 11) (v := s1) rfl (by kernel_rfl) (by kernel_rfl) (by kernel_rfl) (fun _ _ _ h => h) (Or.inl ⟨by rfl, fun W hW => ?_⟩) hHeld ?_
        · have q0 := hW.1
          clear hW
          go_simp
        try simp only [Act.put, List.getElem_toArray, List.getElem_cons_zero, List.getElem_cons_succ, List.setIfInBounds_toArray, List.set_cons_zero, List.set_cons_succ]
        refine wpAnyH_take (i := 12) (v := .slice (some ⟨gw, 0, none⟩) ws.length cw) rfl (by kernel_rfl) (by kernel_rfl) (by kernel_rfl) (fun _ _ _ h => h) (Or.inl ⟨by rfl, fun W hW => ?_⟩) hHeld ?_
        · clear hW
          go_simp
        try simp only [Act.put, List.getElem_toArray, List.getElem_cons_zero, List.getElem_cons_succ, List.setIfInBounds_toArray, List.set_cons_zero, List.set_cons_succ]
        refine wpAnyH_take (i := 13) (v := .int .i64 (k : Int)) rfl (by kernel_rfl) (by kernel_rfl) (by kernel_rfl) (fun _ _ _ h => h) (Or.inl ⟨by rfl, fun W hW => ?_⟩) hHeld ?_
        · clear hW
          go_simp
        try simp only [Act.put, List.getElem_toArray, List.getElem_cons_zero, List.getElem_cons_succ, List.setIfInBounds_toArray, List.set_cons_zero, List.set_cons_succ]
        refine wpAnyH_take (i := 14) (v := .int .i64 ((k : Int) + 1)) rfl (by kernel_rfl) (by kernel_rfl) (by kernel_rfl) (fun _ _ _ h => h) (Or.inl ⟨by rfl, fun W hW => ?_⟩) hHeld ?_
        · clear hW
          go_simp
        try simp only [Act.put, List.getElem_toArray, List.getElem_cons_zero, List.getElem_cons_succ, List.setIfInBounds_toArray, List.set_cons_zero, List.set_cons_succ]
        refine wpAnyH_take (i := 15) (v := .pointer (some ⟨gw, (k + 1) * 8, none⟩)) rfl (by kernel_rfl) (by kernel_rfl) (by kernel_rfl) (fun _ _ _ h => h) (Or.inl ⟨by rfl, fun W hW => ?_⟩) hHeld ?_
        · clear hW
          go_simp
        try simp only [Act.put, List.getElem_toArray, List.getElem_cons_zero, List.getElem_cons_succ, List.setIfInBounds_toArray, List.set_cons_zero, List.set_cons_succ]
        refine wpAnyH_take (i := 16) (v := .pointer (some ⟨gw, (k + 1) * 8, none⟩)) rfl (by kernel_rfl) (by kernel_rfl) (by kernel_rfl) (fun _ _ _ h => h) (Or.inl ⟨by rfl, fun W hW => ?_⟩) hHeld ?_
        · clear hW
          go_simp
        try simp only [Act.put, List.getElem_toArray, List.getElem_cons_zero, List.getElem_cons_succ, List.setIfInBounds_toArray, List.set_cons_zero, List.set_cons_succ]
        refine wpAnyH_take (i := 17) (v := s2) rfl (by kernel_rfl) (by kernel_rfl) (by kernel_rfl) (fun _ _ _ h => h) (Or.inl ⟨by rfl, fun W hW => ?_⟩) hHeld ?_
        · have q0 := hW.2.1
          clear hW
          go_simp
        try simp only [Act.put, List.getElem_toArray, List.getElem_cons_zero, List.getElem_cons_succ, List.setIfInBounds_toArray, List.set_cons_zero, List.set_cons_succ]
        refine wpAnyH_ready (rs := [18]) (by kernel_rfl) (by simp) (AllReadyH.cons rfl (fun K hK => ?_) AllReadyH.nil)
        go_simp
        refine (HCS.out _ hHeld.2.2).mono ?_
        rintro e w9 ⟨rfl, K9⟩
        go_wp2_with fail
        refine hK.out _ _ (⟨K9.cell hHeld.1 (by simp), K9.cell hHeld.2.1 (by simp), grown_trans hHeld.2.2 K9⟩) (fun hHeld => ?_)
        clear hK K
        try simp only [Act.put, List.getElem_toArray, List.getElem_cons_zero, List.getElem_cons_succ, List.setIfInBounds_toArray, List.set_cons_zero, List.set_cons_succ]
        refine wpAnyH_take (i := 19) (v := .bool false) rfl (by kernel_rfl) (by kernel_rfl) (by kernel_rfl) (fun _ _ _ h => h) (Or.inl ⟨by rfl, fun W hW => ?_⟩) hHeld ?_
        · clear hW
          go_simp
        try simp only [Act.put, List.getElem_toArray, List.getElem_cons_zero, List.getElem_cons_succ, List.setIfInBounds_toArray, List.set_cons_zero, List.set_cons_succ]
        refine wpAnyH_take (i := 20) (v := .bool false) rfl (by kernel_rfl) (by kernel_rfl) (by kernel_rfl) (fun _ _ _ h => h) (Or.inl ⟨by rfl, fun W hW => ?_⟩) hHeld ?_
        · clear hW
          go_simp
        try simp only [Act.put, List.getElem_toArray, List.getElem_cons_zero, List.getElem_cons_succ, List.setIfInBounds_toArray, List.set_cons_zero, List.set_cons_succ]
        refine wpAnyH_done (by kernel_rfl) ?_ _
        have KX := hHeld.2.2
        clear hwr hnn hHeld e1 f1 HCS
        have G9 := grown_trans G8 KX
        have HR9 : Hid (w9.ownsRow w2.heap.size 56 8 (.slice (some ⟨gx, 0, none⟩) vs.length cx) vs.length (flatB vs)) := owns_keptNone HR8.out KX
        have HI9 : Hid (∀ j (hj : j < vs.length), k + 1 ≤ j → IOwns w9 w2.heap.size (.slice vs[j].a vs[j].b.code.length vs[j].ca) vs[j].b.code) := fun j hj hkj => owns_keptNone (HI8.out j hj hkj) KX
        have HS9 : Hid (∀ j (hj : j < vs.length), SpI w9 (.slice vs[j].a vs[j].b.code.length vs[j].ca)) := fun j hj => (HS8.out j hj).kept KX (by simp)
        have HW9 := HW8.out.keptNone KX
        have HY9 := HY8.out.keptNone KX
        clear HR8 HI8 HS8 HW8 HY8 G8 KX
        go_wp2
        go_roundw
        case rel => exact ⟨k + 1, by omega, by go_num, HR9, HI9, HS9, HW9, HY9, G9⟩
        case measure => simp [intOf]; omega
      · have hl2 : ¬ (k : Int) + 1 < (vs.length : Int) := by omega
        go_upto_region 13 with fail
        have hnn : ¬ (k : Int) + 1 < 0 := by omega
        have hwr : IntKind.i64.wrap ((k : Int) + 1) = (k : Int) + 1 := by have := sm.1; rw [IntKind.wrap_i64]; omega
        refine wp_region_held_drew (S := fun V => w8.grownBy V none) (by kernel_rfl) (grown_drewN w8 1 none) (fun hHeld => ?_)
        refine wpAnyH_take (i := 0) (v := .int .i64 (k : Int)) rfl (by kernel_rfl) (by kernel_rfl) (by kernel_rfl) (fun _ _ _ h => h) (Or.inl ⟨by rfl, fun W hW => ?_⟩) hHeld ?_
        · clear hW
          go_simp
        try simp only [Act.put, List.getElem_toArray, List.getElem_cons_zero, List.setIfInBounds_toArray, List.set_cons_zero, List.set_cons_succ]
        refine wpAnyH_take (i := 1) (v := .int .i64 ((k : Int) + 1)) rfl (by kernel_rfl) (by kernel_rfl) (by kernel_rfl) (fun _ _ _ h => h) (Or.inl ⟨by rfl, fun W hW => ?_⟩) hHeld ?_
        · clear hW
          go_simp
        try simp only [Act.put, List.getElem_toArray, List.getElem_cons_zero, List.getElem_cons_succ, List.setIfInBounds_toArray, List.set_cons_zero, List.set_cons_succ]
        refine wpAnyH_take (i := 2) (v := .slice (some ⟨gx, 0, none⟩) vs.length cx) rfl (by kernel_rfl) (by kernel_rfl) (by kernel_rfl) (fun _ _ _ h => h) (Or.inl ⟨by rfl, fun W hW => ?_⟩) hHeld ?_
        · clear hW
          go_simp
        try simp only [Act.put, List.getElem_toArray, List.getElem_cons_zero, List.getElem_cons_succ, List.setIfInBounds_toArray, List.set_cons_zero, List.set_cons_succ]
        refine wpAnyH_take (i := 3) (v := .int .i64 (vs.length : Int)) rfl (by kernel_rfl) (by kernel_rfl) (by kernel_rfl) (fun _ _ _ h => h) (Or.inl ⟨by rfl, fun W hW => ?_⟩) hHeld ?_
        · clear hW
          go_simp
        try simp only [Act.put, List.getElem_toArray, List.getElem_cons_zero, List.getElem_cons_succ, List.setIfInBounds_toArray, List.set_cons_zero, List.set_cons_succ]
        refine wpAnyH_take (i := 4) (v := .bool false) rfl (by kernel_rfl) (by kernel_rfl) (by kernel_rfl) (fun _ _ _ h => h) (Or.inl ⟨by rfl, fun W hW => ?_⟩) hHeld ?_
        · clear hW
          go_simp
        try simp only [Act.put, List.getElem_toArray, List.getElem_cons_zero, List.getElem_cons_succ, List.setIfInBounds_toArray, List.set_cons_zero, List.set_cons_succ]
        refine wpAnyH_take (i := 5) (v := .bool false) rfl (by kernel_rfl) (by kernel_rfl) (by kernel_rfl) (fun _ _ _ h => h) (Or.inl ⟨by rfl, fun W hW => ?_⟩) hHeld ?_
        · clear hW
          go_simp
        try simp only [Act.put, List.getElem_toArray, List.getElem_cons_zero, List.getElem_cons_succ, List.setIfInBounds_toArray, List.set_cons_zero, List.set_cons_succ]
        refine wpAnyH_take (i := 6) (v := undef) rfl (by kernel_rfl) (by kernel_rfl) (by kernel_rfl) (fun _ _ _ h => h) (Or.inr ⟨by rfl, rfl⟩) hHeld ?_
        try simp only [Act.put, List.getElem_toArray, List.getElem_cons_zero, List.getElem_cons_succ, List.setIfInBounds_toArray, List.set_cons_zero, List.set_cons_succ]
        refine wpAnyH_take (i := 7) (v := undef) rfl (by kernel_rfl) (by kernel_rfl) (by kernel_rfl) (fun _ _ _ h => h) (Or.inr ⟨by rfl, rfl⟩) hHeld ?_
        try simp only [Act.put, List.getElem_toArray, List.getElem_cons_zero, List.getElem_cons_succ, List.setIfInBounds_toArray, List.set_cons_zero, List.set_cons_succ]
        refine wpAnyH_take (i := 8) (v := undef) rfl (by kernel_rfl) (by kernel_rfl) (by kernel_rfl) (fun _ _ _ h => h) (Or.inr ⟨by rfl, rfl⟩) hHeld ?_
        try simp only [Act.put, List.getElem_toArray, List.getElem_cons_zero, List.getElem_cons_succ, List.setIfInBounds_toArray, List.set_cons_zero, List.set_cons_succ]
        refine wpAnyH_take (i := 9) (v := undef) rfl (by kernel_rfl) (by kernel_rfl) (by kernel_rfl) (fun _ _ _ h => h) (Or.inr ⟨by rfl, rfl⟩) hHeld ?_
        try simp only [Act.put, List.getElem_toArray, List.getElem_cons_zero, List.getElem_cons_succ, List.setIfInBounds_toArray, List.set_cons_zero, List.set_cons_succ]
        refine wpAnyH_take (i := 10) (v := undef) rfl (by kernel_rfl) (by kernel_rfl) (by kernel_rfl) (fun _ _ _ h => h) (Or.inr ⟨by rfl, rfl⟩) hHeld ?_
        try simp only [Act.put, List.getElem_toArray, List.getElem_cons_zero, List.getElem_cons_succ, List.setIfInBounds_toArray, List.set_cons_zero, List.set_cons_succ]
        refine wpAnyH_take (i := 11) (v := undef) rfl (by kernel_rfl) (by kernel_rfl) (by kernel_rfl) (fun _ _ _ h => h) (Or.inr ⟨by rfl, rfl⟩) hHeld ?_
        try simp only [Act.put, List.getElem_toArray, List.getElem_cons_zero, List.getElem_cons_succ, List.setIfInBounds_toArray, List.set_cons_zero, List.set_cons_succ]
        refine wpAnyH_take (i := 12) (v := undef) rfl (by kernel_rfl) (by kernel_rfl) (by kernel_rfl) (fun _ _ _ h => h) (Or.inr ⟨by rfl, rfl⟩) hHeld ?_
        try simp only [Act.put, List.getElem_toArray, List.getElem_cons_zero, List.getElem_cons_succ, List.setIfInBounds_toArray, List.set_cons_zero, List.set_cons_succ]
        refine wpAnyH_take (i := 13) (v := undef) rfl (by kernel_rfl) (by kernel_rfl) (by kernel_rfl) (fun _ _ _ h => h) (Or.inr ⟨by rfl, rfl⟩) hHeld ?_
        try simp only [Act.put, List.getElem_toArray, List.getElem_cons_zero, List.getElem_cons_succ, List.setIfInBounds_toArray, List.set_cons_zero, List.set_cons_succ]
        refine wpAnyH_take (i := 14) (v := undef) rfl (by kernel_rfl) (by kernel_rfl) (by kernel_rfl) (fun _ _ _ h => h) (Or.inr ⟨by rfl, rfl⟩) hHeld ?_
        try simp only [Act.put, List.getElem_toArray, List.getElem_cons_zero, List.getElem_cons_succ, List.setIfInBounds_toArray, List.set_cons_zero, List.set_cons_succ]
        refine wpAnyH_take (i := 15) (v := undef) rfl (by kernel_rfl) (by kernel_rfl) (by kernel_rfl) (fun _ _ _ h => h) (Or.inr ⟨by rfl, rfl⟩) hHeld ?_
        try simp only [Act.put, List.getElem_toArray, List.getElem_cons_zero, List.getElem_cons_succ, List.setIfInBounds_toArray, List.set_cons_zero, List.set_cons_succ]
        refine wpAnyH_take (i := 16) (v := undef) rfl (by kernel_rfl) (by kernel_rfl) (by kernel_rfl) (fun _ _ _ h => h) (Or.inr ⟨by rfl, rfl⟩) hHeld ?_
        try simp only [Act.put, List.getElem_toArray, List.getElem_cons_zero, List.getElem_cons_succ, List.setIfInBounds_toArray, List.set_cons_zero, List.set_cons_succ]
        refine wpAnyH_take (i := 17) (v := undef) rfl (by kernel_rfl) (by kernel_rfl) (by kernel_rfl) (fun _ _ _ h => h) (Or.inr ⟨by rfl, rfl⟩) hHeld ?_
        try simp only [Act.put, List.getElem_toArray, List.getElem_cons_zero, List.getElem_cons_succ, List.setIfInBounds_toArray, List.set_cons_zero, List.set_cons_succ]
        refine wpAnyH_take (i := 18) (v := undef) rfl (by kernel_rfl) (by kernel_rfl) (by kernel_rfl) (fun _ _ _ h => h) (Or.inr ⟨by rfl, rfl⟩) hHeld ?_
        try simp only [Act.put, List.getElem_toArray, List.getElem_cons_zero, List.getElem_cons_succ, List.setIfInBounds_toArray, List.set_cons_zero, List.set_cons_succ]
        refine wpAnyH_take (i := 19) (v := undef) rfl (by kernel_rfl) (by kernel_rfl) (by kernel_rfl) (fun _ _ _ h => h) (Or.inr ⟨by rfl, rfl⟩) hHeld ?_
        try simp only [Act.put, List.getElem_toArray, List.getElem_cons_zero, List.getElem_cons_succ, List.setIfInBounds_toArray, List.set_cons_zero, List.set_cons_succ]
        refine wpAnyH_take (i := 20) (v := .bool false) rfl (by kernel_rfl) (by kernel_rfl) (by kernel_rfl) (fun _ _ _ h => h) (Or.inl ⟨by rfl, fun W hW => ?_⟩) hHeld ?_
        · clear hW
          go_simp
        try simp only [Act.put, List.getElem_toArray, List.getElem_cons_zero, List.getElem_cons_succ, List.setIfInBounds_toArray, List.set_cons_zero, List.set_cons_succ]
        refine wpAnyH_done (by kernel_rfl) ?_ _
        have KX := hHeld
        clear hwr hnn hHeld
        have G9 := grown_trans G8 KX
        have HR9 : Hid ((w8.drewN 1).ownsRow w2.heap.size 56 8 (.slice (some ⟨gx, 0, none⟩) vs.length cx) vs.length (flatB vs)) := owns_keptNone HR8.out KX
        have HI9 : Hid (∀ j (hj : j < vs.length), k + 1 ≤ j → IOwns (w8.drewN 1) w2.heap.size (.slice vs[j].a vs[j].b.code.length vs[j].ca) vs[j].b.code) := fun j hj hkj => owns_keptNone (HI8.out j hj hkj) KX
        have HS9 : Hid (∀ j (hj : j < vs.length), SpI (w8.drewN 1) (.slice vs[j].a vs[j].b.code.length vs[j].ca)) := fun j hj => (HS8.out j hj).kept KX (by simp)
        have HW9 := HW8.out.keptNone KX
        have HY9 := HY8.out.keptNone KX
        clear HR8 HI8 HS8 HW8 HY8 G8 KX
        go_wp2
        go_roundw
        case rel => exact ⟨k + 1, by omega, by go_num, HR9, HI9, HS9, HW9, HY9, G9⟩
        case measure => simp [intOf]; omega
    · have hl : ¬ (k : Int) < (vs.length : Int) := by omega
      have CB := bspoilb_any (.slice ax vs.length cx) vs w2.heap.size w3.heap.size wr HRR.out (fun y hy => by
        obtain ⟨j, hj, rfl⟩ := List.getElem_of_mem hy
        exact HSX.out j hj) HAP.out (fun y hy z hz => HRX.out.2 y hy z (by rw [own15]; exact hz)) (fun z hz => (HRX.out.1 z hz).2)
      clear HIX HSX HRR
      go_wp2_with fail
      refine CB.mono ?_
      rintro e w9 ⟨rfl, L9⟩
      have G9 := L9.grown G (by omega)
      have BW9 := blv_lo HBW.out HRW.out L9 (.inl (by omega))
      have BY9 := blv_lo HBY.out HRY.out L9 (.inr (by omega))
      obtain ⟨ay, cy, rfl, GY, -⟩ := BY9.gc
      obtain ⟨aw2, cw2, hvw, GW, -⟩ := BW9.gc
      have CS := bsameb_any ay aw2 cy cw2 us ws w9 GY GW (HYG.out.trans HWG.out.symm) (by have := of_small HYG.out; omega) (fun y hy => by have := (of_small HYG.out).2 y hy; omega)
      rw [← hvw] at CS
      clear CB L9 G BW9 BY9 GY GW HBW HBY hvw
      go_wp2_with fail
      refine CS.mono ?_
      rintro e w10 ⟨rfl, n10, rfl⟩
      have G10 := grown_trans G9 (grown_drewN w9 n10 none)
      generalize w9.drewN n10 = w10 at *
      have CA := awake15_any w10
      clear CS G9
      go_wp2_with fail
      refine CA.mono ?_
      rintro e w11 ⟨rfl, K11⟩
      have G11 := grown_trans G10 K11
      clear CA
      go_wp2
      go_ret
      exact ⟨rfl, G11⟩

set_option maxRecDepth 100000 in
theorem lifted (os : Os) (started : os.Started) (H : Type) (enc : TypeId × Value → H) :
    ReturnsInHanded {} Tryz.checked os 6 .any (Rows.graphOfsSpec.pre6 enc Tryz.prog Tryz.f6 Rows.graphOfsRow.domain false) (Rows.graphOfsSpec.post enc Tryz.prog Tryz.f6 false true false false) := by
  refine returnsInHanded_of_change_sized (C := Tryz.checked) own started (by kernel_rfl) Tryz.func6
    (ChangeSpec.witness6 (enc := enc) (C := Tryz.checked) false ⟨#[], #[.slice none 0 0], []⟩ 8 (by kernel_rfl) (by kernel_rfl) (by kernel_rfl) (by kernel_rfl)) ?_
  intro W base args ds gs before hval0 hW hcnd hsz0 _
  have hsz : (DataW.weightsEach Tryz.prog (Tryz.f6.params.toList ++ Rows.graphOfsSpec.plain.varTypes Tryz.prog) (ds ++ gs)).all (· ≤ reachBytes) = true := hsz0
  have hval : ∀ (j : Nat) t v, Tryz.f6.params[j]? = some t → args[j]? = some v → Value.okWide Tryz.prog W .any base t v := hval0
  have hW' := hW
  obtain ⟨p, q, hA0, hV, rfl, hfz, hnd⟩ := hW
  have hA : DataW.TrodAll enc Tryz.prog W 0 (fun _ => true) true Tryz.f6.params.toList args.toList ds p := hA0
  rw [Tryz.params6] at hA hval hsz
  obtain ⟨v0, vs0, d0, ds0, p0, q0, hargs, rfl, rfl, h0, r0⟩ := trodAll_cons hA
  obtain ⟨rfl, rfl, rfl⟩ := trodAll_nil r0
  obtain rfl : args = #[v0] := by cases args; simp_all
  obtain ⟨rfl, rfl⟩ := trodVars_none hV
  obtain ⟨a0, len0, cap0, rfl⟩ := okWide_slice Tryz.underlying46 (hval 0 46 v0 rfl rfl)
  have k0 := h0
  have lt0 : ∀ x ∈ p0, x.block < W.heap.size := by obtain ⟨m, hm⟩ := k0; exact DataW.trod_lt m _ _ _ hm
  obtain ⟨xs0, rfl, hcells0, hnil0, hcp0, hdat0⟩ := open_insns h0
  have hlen0 : xs0.length * 8 ≤ 140737488351232 := by
    rcases hdat0 with ⟨_, rfl⟩ | ⟨elems, spare, rfl, hle⟩
    · simp
    · have := sized_slice hsz (j := 0) (t := 46) (e := 54) rfl rfl Tryz.underlying46
      rw [bytes54] at this
      unfold reachBytes at this
      omega
  clear hA0 hval0
  refine (walk a0 cap0 xs0 W hcells0 hnil0 hcp0.1 hcp0.2 (by omega)).mono fun e W' ⟨he, hg⟩ => ?_
  subst he
  have bel : Below W.heap.size W W' := (Below.refl _ _).grown hg (Nat.le_refl _) (by simp)
  exact ⟨_, rfl, _, _, _, [], _, [], hW', trodAll_mk1 (shut_bool Tryz.underlying4 _), (trodAll_cons_mk (Below.trod laidOut (by kernel_rfl) (of_decide_eq_true (by kernel_rfl)) k0 bel lt0) trodAll_mk0), rfl, bel.frame _, fun h => by cases h⟩

theorem over : Rows.GraphOfsSaid :=
  OpenClaim.holds_of_wide 6 Tryz.f6 rfl rfl rfl rfl rfl rfl rfl ⟨rfl, rfl, rfl, rfl, rfl⟩ rfl rfl rfl rfl rfl (by kernel_rfl) Tryz.func6 (by kernel_rfl)
    (of_decide_eq_true (by kernel_rfl)) (by unfold Func.isWrapper; first | (rw [if_pos (by decide +kernel)]; kernel_rfl) | (rw [if_neg (by decide +kernel)]; exact ⟨rfl, rfl⟩))
    (fun os started H enc _ => lifted os started H enc)

end graphOfs

theorem graphOfs_holds : Rows.GraphOfsSaid := graphOfs.over
#print axioms graphOfs_holds

end Go.Proofs.YtpoleldfoahpoaaGreat
