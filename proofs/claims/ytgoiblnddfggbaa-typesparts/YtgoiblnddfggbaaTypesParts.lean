/-
  For every list of nodes (of such size as the form itself says of it) riddlelaw12.TypesParts returns true and leaves what was there as it was: no condition of ours.
-/
import Derived.Test.YtgoiblnddfggbaaLotP29
import Derived.Test.YtgoiblnddfggbaaLotP43
import Derived.Test.YtgoiblnddfggbaaAwake12
import Derived.Deep.DeepCutAuto
namespace Go.Proofs.Ytgoiblnddfggbaa
open Go.ChangeShapes Go.WideShapes Go.ChangeAt Go.RowKit
set_option maxRecDepth 100000
namespace typesParts

theorem nl_item {w : World} {base : Nat} {v : Value} {vs : List Value} {pss : List (List Ng)} (h : NLv w base v vs pss) {i : Nat} (hi : i < pss.length) : ∃ g cap ao ca, v = .slice (some ⟨g, 0, none⟩) pss.length cap ∧ w.cell? ⟨g, i, none⟩ = some (.slice ao (pss.getD i []).length ca) ∧ CV w ao (flatG (pss.getD i [])) ∧ vs.getD i nilV = .slice ao (pss.getD i []).length ca := by
  have O := h.2.2.1 i hi
  obtain ⟨ao, ca, hv, C, -, -, h0', -⟩ := cv_of_row O
  have hr := h.1
  rcases h.1.2 with ⟨-, h0⟩ | ⟨g, cap, cur, hv2, -⟩
  · omega
  · rw [hv2] at hr
    have hc := hr.cellAt i (by have := h.2.1; omega)
    refine ⟨g, cap, ao, ca, hv2, ?_, C, hv⟩
    rw [hc, ← hv, List.getD_eq_getElem?_getD, List.getElem?_eq_getElem (by have := h.2.1; omega)]
    rfl
/-- Lists that lie from a block on stay, whatever becomes of a block below. -/
theorem nl_keptB {w w' : World} {base : Nat} {v : Value} {vs : List Value} {pss : List (List Ng)} {row : Option Nat} (h : NLv w base v vs pss) (G : w.grownBy w' row) (hr : ∀ b, row = some b → b < base) : NLv w' base v vs pss := by
  have hk : ∀ {e size n : Nat} {u : Value} {us : List Value}, w.ownsRow base e size u n us → w'.ownsRow base e size u n us := fun O => by
    refine O.kept G ?_
    rename_i e size n u us
    cases hu : u.ownBlock with
    | none => exact .inl rfl
    | some x =>
      right
      intro hx
      have := (O.lt x hu).1
      have := hr x hx.symm
      omega
  exact ⟨hk h.1, h.2.1, fun i hi => hk (h.2.2.1 i hi), h.2.2.2⟩
theorem nl_kept {w w' : World} {base : Nat} {v : Value} {vs : List Value} {pss : List (List Ng)} (h : NLv w base v vs pss) (G : w.grownBy w' none) : NLv w' base v vs pss := nl_keptB h G (fun b hb => by cases hb)
/-- The lists that are left, from the k-th on; the row itself. -/
def NLf (w : World) (base : Nat) (v : Value) (vs : List Value) (pss : List (List Ng)) (k : Nat) : Prop :=
  w.ownsRow base 22 1 v pss.length vs ∧ vs.length = pss.length ∧ ∀ i, k ≤ i → i < pss.length → NgOwns w base (vs.getD i nilV) (pss.getD i [])
theorem nlf_item {w : World} {base : Nat} {v : Value} {vs : List Value} {pss : List (List Ng)} {k : Nat} (h : NLf w base v vs pss k) (hi : k < pss.length) : ∃ g cap ao ca, v = .slice (some ⟨g, 0, none⟩) pss.length cap ∧ w.cell? ⟨g, k, none⟩ = some (.slice ao (pss.getD k []).length ca) ∧ CV w ao (flatG (pss.getD k [])) ∧ vs.getD k nilV = .slice ao (pss.getD k []).length ca := by
  have O := h.2.2 k (Nat.le_refl _) hi
  obtain ⟨ao, ca, hv, C, -, -, h0', -⟩ := cv_of_row O
  have hr := h.1
  rcases h.1.2 with ⟨-, h0⟩ | ⟨g, cap, cur, hv2, -⟩
  · omega
  · rw [hv2] at hr
    have hc := hr.cellAt k (by have := h.2.1; omega)
    refine ⟨g, cap, ao, ca, hv2, ?_, C, hv⟩
    rw [hc, ← hv, List.getD_eq_getElem?_getD, List.getElem?_eq_getElem (by have := h.2.1; omega)]
    rfl
theorem nlf_kept {w w' : World} {base : Nat} {v : Value} {vs : List Value} {pss : List (List Ng)} {k : Nat} (h : NLf w base v vs pss k) (G : w.grownBy w' none) : NLf w' base v vs pss k :=
  ⟨h.1.kept G (by cases v.ownBlock <;> simp), h.2.1, fun i hk hi => World.ownsRow.kept (h.2.2 i hk hi) G (by cases (vs.getD i nilV).ownBlock <;> simp)⟩
/-- The k-th is spoilt. -/
theorem nlf_spoil {w w' : World} {base : Nat} {v : Value} {vs : List Value} {pss : List (List Ng)} {k : Nat} (h : NLf w base v vs pss k) (hap : ∀ i j, i < j → j < pss.length → ∀ x, (vs.getD i nilV).ownBlock = some x → (vs.getD j nilV).ownBlock ≠ some x) (hk : k < pss.length) (G : w.grownBy w' (vs.getD k nilV).ownBlock) : NLf w' base v vs pss (k + 1) := by
  refine ⟨own_kept' h.1 (h.2.2 k (Nat.le_refl _) hk) (by decide) G, h.2.1, fun i hi1 hi2 => ?_⟩
  refine World.ownsRow.kept (h.2.2 i (by omega) hi2) G ?_
  cases hu : (vs.getD i nilV).ownBlock with
  | none => exact .inl rfl
  | some x =>
    right
    intro hx
    exact hap k i (by omega) hi2 x hx.symm hu

set_option maxRecDepth 100000 in
set_option maxHeartbeats 16000000 in
theorem walk (a : Option Addr) (ca : Nat) (t : List Ng) (w : World) (hA : CV w a (flatG t)) (ha0 : a = none → ca = 0) (hac : t.length ≤ ca) (hax : ca ≤ maxLen) (hal : t.length * 72 ≤ 140737488351232) (_hao : ∀ x ∈ t, x.ok) :
    Calls Try.prog 5 #[.slice a t.length ca] w fun e w' => e = .returned (.bool true) ∧ w.grownBy w' none := by
  have HA : Hid (CV w a (flatG t)) := hA
  have HHA0 : Hid (a = none → ca = 0) := ha0
  have CR := refparts_any a ca t w hA hac hax (by omega)
  have HPA : Hid (∀ (ao : Option Addr) (cap : Nat) (W : World), CV W ao (flatG t) → t.length ≤ cap → cap ≤ maxLen → Calls Try.prog 16 #[.slice ao t.length cap] W fun e w' => ∃ v, partsR (partsG t) v e ∧ partsW (partsG t) w' W.heap.size v ∧ W.grownBy w' none) := fun ao cap W C h1 h2 => parts_any ao cap t W C h1 h2 (by omega)
  clear hA ha0 hax
  cases hp : partsG t with
  | none =>
    rw [hp] at CR HPA
    go_enter Try.func5, Try.ntmps5
    go_wp2_with fail
    refine CR.mono ?_
    rintro e1 w1 ⟨v1, hR1, -, K1⟩
    simp only [partsR, nilV] at hR1
    subst hR1
    have CL := glend_any a ca t w1 (HA.out.keptNone K1) HHA0.out (by omega)
    clear CR
    go_wp2_with fail
    refine CL.mono ?_
    rintro e2 w2 ⟨v2, rfl, ⟨g, cap, rfl, hc1, hc2, hg1, hg2, O2⟩, K2⟩
    have CP := HPA.out (some ⟨g, 0, none⟩) cap w2 (gcv_front O2).1 (by omega) hc2
    clear CL
    go_wp2_with fail
    refine CP.mono ?_
    rintro e3 w3 ⟨v3, hR3, -, K3⟩
    simp only [partsR, nilV] at hR3
    subst hR3
    have G3 := grown_trans (grown_trans K1 K2) K3
    have CK := gkept_any g cap a ca t w3 (owns_mono (owns_keptNone O2 K3) (Nat.zero_le _)) (HA.out.keptNone G3) (by omega)
    have HGW : Hid (w.heap.size ≤ g) := Nat.le_trans K1.size hg1
    clear CP O2 hc1 hc2 hg1 hg2 K1 K2 K3
    go_wp2_with fail
    refine CK.mono ?_
    rintro e4 w4 ⟨rfl, K4⟩
    have G4 : w.grownBy w4 none := grown_trans_new G3 K4 (fun x hx => by cases hx; exact HGW.out)
    have CC := gcopy_any a ca t w4 (HA.out.keptNone G4) HHA0.out (by omega)
    clear CK K4 G3
    go_wp2_with fail
    refine CC.mono ?_
    rintro e5 w5 ⟨v5, rfl, O5, K5⟩
    obtain ⟨a5, c5, rfl, D5, hl5, hm5, -⟩ := cv_of_row O5
    have CP := HPA.out a5 c5 w5 D5 hl5 hm5
    have G5 := grown_trans G4 K5
    clear CC O5 D5 hl5 hm5 K5 G4
    go_wp2_with fail
    refine CP.mono ?_
    rintro e6 w6 ⟨v6, hR6, -, K6⟩
    simp only [partsR, nilV] at hR6
    subst hR6
    have HG6 : Hid (w.grownBy w6 none) := grown_trans G5 K6
    clear CP K6 G5
    go_wp2
    go_loopw [10] (fun i wr => i = .int .i64 0 ∧ wr = w6) (fun _ _ => 0)
    case atStart => exact ⟨rfl, rfl⟩
    case round =>
      obtain ⟨rfl, rfl⟩ := hrel
      go_wp2
      go_loopw [11] (fun i wz => i = .int .i64 0 ∧ wz = wr) (fun _ _ => 0)
      case atStart => exact ⟨rfl, rfl⟩
      case round =>
        obtain ⟨rfl, rfl⟩ := hrel
        go_wp2_with fail
        refine (awake12_any _).mono ?_
        rintro e9 w9 ⟨rfl, K9⟩
        go_wp2
        go_ret
        exact ⟨rfl, grown_trans HG6.out K9⟩
  | some pss =>
    rw [hp] at CR HPA
    have HTR : Hid (∀ k, k < pss.length → pss.getD k [] ≠ [] ∧ (pss.getD k []).length < t.length) := by
      intro k hk
      obtain ⟨x, ar, ht, -⟩ := parts_lists hp
      have hm : pss.getD k [] ∈ pss := by rw [List.getD_eq_getElem?_getD, List.getElem?_eq_getElem hk]; exact List.getElem_mem hk
      have h1 := parts_trees hp _ hm
      refine ⟨?_, ?_⟩
      · intro e
        rw [e] at h1
        cases h1
      · have h2 : (pss.getD k []).length ≤ pss.flatten.length := (List.sublist_flatten_of_mem hm).length_le
        rw [ht, List.length_append, List.length_singleton]
        omega
    have hp2 : pss.length ≤ 2 := by
      obtain ⟨x, ar, -, har, hpl, -⟩ := parts_lists hp
      exact hpl ▸ arG_le har
    clear hp
    go_enter Try.func5, Try.ntmps5
    go_wp2_with fail
    refine CR.mono ?_
    rintro e1 w1 ⟨v1, hR1, ⟨vs1, N1⟩, K1⟩
    simp only [partsR] at hR1
    subst hR1
    obtain ⟨aW, cW, rfl, -⟩ := cv_of_row N1.1
    have CL := glend_any a ca t w1 (HA.out.keptNone K1) HHA0.out (by omega)
    clear CR
    go_wp2_with fail
    refine CL.mono ?_
    rintro e2 w2 ⟨v2, rfl, ⟨g, cap, rfl, hc1, hc2, hg1, hg2, O2⟩, K2⟩
    have CP := HPA.out (some ⟨g, 0, none⟩) cap w2 (gcv_front O2).1 (by omega) hc2
    clear CL
    go_wp2_with fail
    refine CP.mono ?_
    rintro e3 w3 ⟨v3, hR3, ⟨vs3, N3⟩, K3⟩
    simp only [partsR] at hR3
    subst hR3
    obtain ⟨aX, cX, rfl, -⟩ := cv_of_row N3.1
    have G3 := grown_trans (grown_trans K1 K2) K3
    have CK := gkept_any g cap a ca t w3 (owns_mono (owns_keptNone O2 K3) (Nat.zero_le _)) (HA.out.keptNone G3) (by omega)
    have HGW : Hid (w.heap.size ≤ g ∧ w1.heap.size ≤ g ∧ g < w2.heap.size ∧ w1.heap.size ≤ w2.heap.size) := ⟨Nat.le_trans K1.size hg1, hg1, hg2, K2.size⟩
    have J3 := grown_trans K2 K3
    have HN1 : Hid (NLv w1 w.heap.size (.slice aW pss.length cW) vs1 pss) := N1
    have HG1 : Hid (w.grownBy w1 none) := K1
    clear CP O2 hc1 hc2 hg1 hg2 K1 K2 K3 N1
    go_wp2_with fail
    refine CK.mono ?_
    rintro e4 w4 ⟨rfl, K4⟩
    have J4 : w1.grownBy w4 none := grown_trans_new J3 K4 (fun x hx => by cases hx; exact HGW.out.2.1)
    have G4 := grown_trans HG1.out J4
    have N4 : NLv w4 w2.heap.size (.slice aX pss.length cX) vs3 pss := nl_keptB N3 K4 (fun b hb => by cases hb; exact HGW.out.2.2.1)
    have CC := gcopy_any a ca t w4 (HA.out.keptNone G4) HHA0.out (by omega)
    have HX3 : Hid (∀ k, k < pss.length → ∀ x, (vs3.getD k nilV).ownBlock = some x → w2.heap.size ≤ x ∧ x < w3.heap.size) := fun k hk x hx => (N3.2.2.1 k hk).lt x hx
    have HS34 : Hid (w3.heap.size ≤ w4.heap.size) := K4.size
    clear CK K4 G3 J3 N3
    go_wp2_with fail
    refine CC.mono ?_
    rintro e5 w5 ⟨v5, rfl, O5, K5⟩
    obtain ⟨a5, c5, rfl, D5, hl5, hm5, -⟩ := cv_of_row O5
    have CP := HPA.out a5 c5 w5 D5 hl5 hm5
    clear CC O5 D5 hl5 hm5 G4
    go_wp2_with fail
    refine CP.mono ?_
    rintro e6 w6 ⟨v6, hR6, ⟨vs6, N6⟩, K6⟩
    simp only [partsR] at hR6
    subst hR6
    obtain ⟨aY, cY, rfl, -⟩ := cv_of_row N6.1
    have J6 := grown_trans J4 (grown_trans K5 K6)
    have N36 : NLv w6 w2.heap.size (.slice aX pss.length cX) vs3 pss := nl_kept N4 (grown_trans K5 K6)
    have HAP : Hid (∀ i j, i < j → j < pss.length → ∀ x, (vs3.getD i nilV).ownBlock = some x → (vs3.getD j nilV).ownBlock ≠ some x) := N36.2.2.2
    have HX5 : Hid (w4.heap.size ≤ w5.heap.size) := K5.size
    have HST : Hid (w1.grownBy w6 none ∧ NLf w6 w2.heap.size (.slice aX pss.length cX) vs3 pss 0 ∧ NLv w6 w5.heap.size (.slice aY pss.length cY) vs6 pss) := ⟨J6, ⟨N36.1, N36.2.1, fun i _ hi => N36.2.2.1 i hi⟩, N6⟩
    clear CP K5 K6 N4 N6 N36 J4 J6
    have hnn : ((pss.length : Int) != (pss.length : Int)) = false := by simp
    go_wp2
    clear hnn
    go_loopw [10] (fun i wr => ∃ k : Nat, k ≤ pss.length ∧ i = .int .i64 k ∧ Hid (w1.grownBy wr none ∧ NLf wr w2.heap.size (.slice aX pss.length cX) vs3 pss k ∧ NLv wr w5.heap.size (.slice aY pss.length cY) vs6 pss)) (fun i _ => pss.length - (intOf i).toNat)
    case atStart => exact ⟨0, Nat.zero_le _, rfl, HST.out⟩
    case round =>
      clear HST
      obtain ⟨k, hk, rfl, HR⟩ := hrel
      by_cases hlt : k < pss.length
      · obtain ⟨gX, cX', aq, cq, eX, hcX, CX, hvX⟩ := nlf_item HR.out.2.1 hlt
        simp only [Value.slice.injEq] at eX
        obtain ⟨rfl, -, rfl⟩ := eX
        obtain ⟨gW, cW', ap, cp, eW, hcW, CW, hvW⟩ := nl_item (nl_kept HN1.out HR.out.1) hlt
        simp only [Value.slice.injEq] at eW
        obtain ⟨rfl, -, rfl⟩ := eW
        obtain ⟨q, hq⟩ : ∃ q, pss.getD k [] = q := ⟨_, rfl⟩
        rw [hq] at hcX CX hvX hcW CW
        have hq1 := HTR.out k hlt
        rw [hq] at hq1
        have HS : Hid (∀ n, Calls Try.prog 18 #[.slice aq q.length cq, .slice ap q.length cp] (wr.drewN n) fun e w' => e = .returned (.bool true) ∧ wr.grownBy w' none) := fun n => by
          refine (gsame_any aq ap cq cp q _ (CX.keptNone (grown_drewN _ _ none)) (CW.keptNone (grown_drewN _ _ none)) (by have := hq1.2; omega)).mono ?_
          rintro e w' ⟨rfl, m, rfl⟩
          exact ⟨rfl, grown_trans (grown_drewN _ _ none) (grown_drewN _ _ none)⟩
        have HSP : Hid (∀ W, wr.grownBy W none → Calls Try.prog 19 #[.slice aq q.length cq] W fun e w' => e = .returned (.tuple #[]) ∧ W.grownBy w' (vs3.getD k nilV).ownBlock) := fun W GW => by
          have O := (nlf_kept HR.out.2.1 GW).2.2 k (Nat.le_refl _) hlt
          have := gspoil_own W O (by rw [hq]; exact hq1.1) (by rw [hq]; have := hq1.2; omega)
          rw [hvX] at this ⊢
          exact this
        have HFIN : Hid (∀ W W', wr.grownBy W none → W.grownBy W' (vs3.getD k nilV).ownBlock → w1.grownBy W' none ∧ NLf W' w2.heap.size (.slice (some ⟨gX, 0, none⟩) pss.length cX) vs3 pss (k + 1) ∧ NLv W' w5.heap.size (.slice aY pss.length cY) vs6 pss) := fun W W' GW GW' => by
          refine ⟨grown_trans_new (grown_trans HR.out.1 GW) GW' (fun x hx => ?_), nlf_spoil (nlf_kept HR.out.2.1 GW) HAP.out hlt GW', nl_keptB (nl_kept HR.out.2.2 GW) GW' (fun b hb => ?_)⟩
          · have := (HX3.out k hlt x hx).1
            have := HGW.out.2.2.2
            omega
          · have := (HX3.out k hlt b hb).2
            have := HS34.out
            have := HX5.out
            omega
        have hl3 : (k : Int) < (pss.length : Int) := by omega
        have z3 : (0 : Int) ≤ (k : Int) := by omega
        have w3' : IntKind.i64.wrap ((k : Int) + 1) = (k : Int) + 1 := by rw [IntKind.wrap_i64]; omega
        have HCK : Hid (∀ W, wr.grownBy W none → W.cell? ⟨gX, k, none⟩ = some (.slice aq q.length cq)) := fun W GW => by
          obtain ⟨g', c', a', c'', e', h', -⟩ := nlf_item (nlf_kept HR.out.2.1 GW) hlt
          simp only [Value.slice.injEq, Option.some.injEq, Addr.mk.injEq] at e'
          obtain ⟨⟨rfl, -, -⟩, -, rfl⟩ := e'
          have hr := (nlf_kept HR.out.2.1 GW).1.cellAt k (by have := HR.out.2.1.2.1; omega)
          have hr0 := HR.out.2.1.1.cellAt k (by have := HR.out.2.1.2.1; omega)
          rw [hr, ← hr0]
          exact hcX
        clear hq1 hq hvX hvW CX CW
        go_upto_region 12 with fail
        go_region_with (go_at_call 18; refine (HS.out _).mono ?_; rintro e7 w7 ⟨rfl, K7⟩)
        all_goals
          have ck := HCK.out w7 K7
          go_wp2_with fail
          refine (HSP.out w7 K7).mono ?_
          rintro e8 w8 ⟨rfl, K8⟩
          have HF := HFIN.out w7 w8 K7 K8
          clear K7 K8 ck
          go_wp2
          go_roundw
          case rel => exact ⟨k + 1, by omega, by go_num, HF⟩
          case measure => simp [intOf]; omega
      · obtain rfl : k = pss.length := by omega
        have hl' : ¬ (pss.length : Int) < (pss.length : Int) := by omega
        have HST : Hid (w1.grownBy wr none ∧ NLv wr w5.heap.size (.slice aY pss.length cY) vs6 pss) := ⟨HR.out.1, HR.out.2.2⟩
        clear HR
        go_wp2
        clear hl' hk hlt
        go_loopw [11] (fun i wz => ∃ k : Nat, k ≤ pss.length ∧ i = .int .i64 k ∧ Hid (w1.grownBy wz none ∧ NLv wz w5.heap.size (.slice aY pss.length cY) vs6 pss)) (fun i _ => pss.length - (intOf i).toNat)
        case atStart => exact ⟨0, Nat.zero_le _, rfl, HST.out⟩
        case round =>
          clear HST
          obtain ⟨k, hk, rfl, HR⟩ := hrel
          by_cases hlt : k < pss.length
          · obtain ⟨gY, cY', aq, cq, eY, hcY, CY, -⟩ := nl_item HR.out.2 hlt
            simp only [Value.slice.injEq] at eY
            obtain ⟨rfl, -, rfl⟩ := eY
            obtain ⟨gW, cW', ap, cp, eW, hcW, CW, -⟩ := nl_item (nl_kept HN1.out HR.out.1) hlt
            simp only [Value.slice.injEq] at eW
            obtain ⟨rfl, -, rfl⟩ := eW
            obtain ⟨q, hq⟩ : ∃ q, pss.getD k [] = q := ⟨_, rfl⟩
            rw [hq] at hcY CY hcW CW
            have hq1 := HTR.out k hlt
            rw [hq] at hq1
            have HS : Hid (∀ n, Calls Try.prog 18 #[.slice aq q.length cq, .slice ap q.length cp] (wr.drewN n) fun e w' => e = .returned (.bool true) ∧ wr.grownBy w' none) := fun n => by
              refine (gsame_any aq ap cq cp q _ (CY.keptNone (grown_drewN _ _ none)) (CW.keptNone (grown_drewN _ _ none)) (by have := hq1.2; omega)).mono ?_
              rintro e w' ⟨rfl, m, rfl⟩
              exact ⟨rfl, grown_trans (grown_drewN _ _ none) (grown_drewN _ _ none)⟩
            have HFIN : Hid (∀ W, wr.grownBy W none → w1.grownBy W none ∧ NLv W w5.heap.size (.slice (some ⟨gY, 0, none⟩) pss.length cY) vs6 pss) := fun W GW => ⟨grown_trans HR.out.1 GW, nl_kept HR.out.2 GW⟩
            have hl3 : (k : Int) < (pss.length : Int) := by omega
            have z3 : (0 : Int) ≤ (k : Int) := by omega
            have w3' : IntKind.i64.wrap ((k : Int) + 1) = (k : Int) + 1 := by rw [IntKind.wrap_i64]; omega
            clear hq1 hq CY CW
            go_upto_region 18 with fail
            go_region_with (go_at_call 18; refine (HS.out _).mono ?_; rintro e7 w7 ⟨rfl, K7⟩)
            all_goals
              have HF := HFIN.out w7 K7
              clear K7
              go_wp2
              go_roundw
              case rel => exact ⟨k + 1, by omega, by go_num, HF⟩
              case measure => simp [intOf]; omega
          · obtain rfl : k = pss.length := by omega
            have hl' : ¬ (pss.length : Int) < (pss.length : Int) := by omega
            have GR := grown_trans HG1.out HR.out.1
            clear HR
            go_wp2_with fail
            refine (awake12_any _).mono ?_
            rintro e14 w14 ⟨rfl, K14⟩
            go_wp2
            go_ret
            exact ⟨rfl, grown_trans GR K14⟩

set_option maxRecDepth 100000 in
theorem lifted (os : Os) (started : os.Started) (H : Type) (enc : TypeId × Value → H) :
    ReturnsInHanded {} Try.checked os 5 .any (Rows.typesPartsSpec.pre6 enc Try.prog Try.f5 Rows.typesPartsRow.domain false) (Rows.typesPartsSpec.post enc Try.prog Try.f5 false true false false) := by
  refine returnsInHanded_of_change_sized (C := Try.checked) own started (by kernel_rfl) Try.func5
    (ChangeSpec.witness6 (enc := enc) (C := Try.checked) false ⟨#[], #[.slice none 0 0], []⟩ 8 (by kernel_rfl) (by kernel_rfl) (by kernel_rfl) (by kernel_rfl)) ?_
  intro W base args ds gs before hval0 hW hcnd hsz0 _
  have hsz : (DataW.weightsEach Try.prog (Try.f5.params.toList ++ Rows.typesPartsSpec.plain.varTypes Try.prog) (ds ++ gs)).all (· ≤ reachBytes) = true := hsz0
  have hval : ∀ (j : Nat) t v, Try.f5.params[j]? = some t → args[j]? = some v → Value.okWide Try.prog W .any base t v := hval0
  have hW' := hW
  obtain ⟨p, q, hA0, hV, rfl, hfz, hnd⟩ := hW
  have hA : DataW.TrodAll enc Try.prog W 0 (fun _ => true) true Try.f5.params.toList args.toList ds p := hA0
  rw [Try.params5] at hA hval hsz
  obtain ⟨v0, vs0, d0, ds0, p0, q0, hargs, rfl, rfl, h0, r0⟩ := trodAll_cons hA
  obtain ⟨rfl, rfl, rfl⟩ := trodAll_nil r0
  obtain rfl : args = #[v0] := by cases args; simp_all
  obtain ⟨rfl, rfl⟩ := trodVars_none hV
  obtain ⟨a0, len0, cap0, rfl⟩ := okWide_slice Try.underlying22 (hval 0 22 v0 rfl rfl)
  have k0 := h0
  have lt0 : ∀ x ∈ p0, x.block < W.heap.size := by obtain ⟨m, hm⟩ := k0; exact DataW.trod_lt m _ _ _ hm
  obtain ⟨xs0, rfl, hcells0, hnil0, hcp0, hok0, hdat0⟩ := open_nodes h0
  have hlen0 : xs0.length * 72 ≤ 140737488351232 := by
    rcases hdat0 with ⟨_, rfl⟩ | ⟨elems, spare, rfl, hle⟩
    · simp
    · have := sized_slice hsz (j := 0) (t := 22) (e := 46) rfl rfl Try.underlying22
      rw [bytes46] at this
      unfold reachBytes at this
      omega
  clear hA0 hval0
  refine (walk a0 cap0 xs0 W hcells0 hnil0 hcp0.1 hcp0.2 (by omega) hok0).mono fun e W' ⟨he, hg⟩ => ?_
  subst he
  have bel : Below W.heap.size W W' := (Below.refl _ _).grown hg (Nat.le_refl _) (by simp)
  exact ⟨_, rfl, _, _, _, [], _, [], hW', trodAll_mk1 (shut_bool Try.underlying4 _), (trodAll_cons_mk (Below.trod laidOut (by kernel_rfl) (of_decide_eq_true (by kernel_rfl)) k0 bel lt0) trodAll_mk0), rfl, bel.frame _, fun h => by cases h⟩

theorem over : Rows.TypesPartsSaid :=
  OpenClaim.holds_of_wide 5 Try.f5 rfl rfl rfl rfl rfl rfl rfl ⟨rfl, rfl, rfl, rfl, rfl⟩ rfl rfl rfl rfl rfl (by kernel_rfl) Try.func5 (by kernel_rfl)
    (of_decide_eq_true (by kernel_rfl)) (by unfold Func.isWrapper; first | (rw [if_pos (by decide +kernel)]; kernel_rfl) | (rw [if_neg (by decide +kernel)]; exact ⟨rfl, rfl⟩))
    (fun os started H enc _ => lifted os started H enc)

end typesParts

theorem typesParts_holds : Rows.TypesPartsSaid := typesParts.over
#print axioms typesParts_holds

end Go.Proofs.Ytgoiblnddfggbaa
