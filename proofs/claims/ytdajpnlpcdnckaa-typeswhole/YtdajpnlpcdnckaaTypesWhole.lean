/-
  For every list of nodes (of such size as the form itself says of it) riddlelaw12.TypesWhole returns true and leaves what was there as it was: no condition of ours.
-/
import Derived.Test.YtdajpnlpcdnckaaTyWh
import Derived.Test.YtdajpnlpcdnckaaTyR2
import Derived.Test.YtdajpnlpcdnckaaLotP26
import Derived.Test.YtdajpnlpcdnckaaOpenN
import Derived.Test.YtdajpnlpcdnckaaAwake12
import Derived.Deep.DeepCutAuto
namespace Go.Proofs.Ytdajpnlpcdnckaa
open Go.ChangeShapes Go.WideShapes Go.ChangeAt Go.RowKit
set_option maxRecDepth 100000
namespace typesWhole

theorem nl_item {w : World} {base : Nat} {v : Value} {vs : List Value} {pss : List (List Ng)} (h : NLv w base v vs pss) {i : Nat} (hi : i < pss.length) : ∃ g cap ao ca, v = .slice (some ⟨g, 0, none⟩) pss.length cap ∧ w.cell? ⟨g, i, none⟩ = some (.slice ao (pss.getD i []).length ca) ∧ CV w ao (flatG (pss.getD i [])) ∧ (ao = none → ca = 0) := by
  have O := h.2.2.1 i hi
  obtain ⟨ao, ca, hv, C, -, -, h0', -⟩ := cv_of_row O
  have hr := h.1
  rcases h.1.2 with ⟨-, h0⟩ | ⟨g, cap, cur, hv2, -⟩
  · omega
  · rw [hv2] at hr
    have hc := hr.cellAt i (by have := h.2.1; omega)
    refine ⟨g, cap, ao, ca, hv2, ?_, C, h0'⟩
    rw [hc, ← hv, List.getD_eq_getElem?_getD, List.getElem?_eq_getElem (by have := h.2.1; omega)]
    rfl
theorem nl_kept {w w' : World} {base : Nat} {v : Value} {vs : List Value} {pss : List (List Ng)} (h : NLv w base v vs pss) (G : w.grownBy w' none) : NLv w' base v vs pss :=
  ⟨h.1.kept G (by cases v.ownBlock <;> simp), h.2.1, fun i hi => World.ownsRow.kept (h.2.2.1 i hi) G (by cases (vs.getD i nilV).ownBlock <;> simp), h.2.2.2⟩
theorem nl_cell {w w' : World} {base g i c ci : Nat} {ao : Option Addr} {vs : List Value} {pss : List (List Ng)} (h : NLv w base (.slice (some ⟨g, 0, none⟩) pss.length c) vs pss) (hi : i < pss.length) (hc : w.cell? ⟨g, i, none⟩ = some (.slice ao (pss.getD i []).length ci)) (G : w.grownBy w' none) : w'.cell? ⟨g, i, none⟩ = some (.slice ao (pss.getD i []).length ci) := by
  have hr := h.1
  have hr' := (nl_kept h G).1
  have h1 := hr.cellAt i (by have := h.2.1; omega)
  have h2 := hr'.cellAt i (by have := h.2.1; omega)
  rw [h2, ← h1]
  exact hc
theorem take_flat {pss : List (List Ng)} {k : Nat} (h : k < pss.length) : (pss.take (k + 1)).flatten = (pss.take k).flatten ++ pss.getD k [] := by
  rw [List.take_succ_eq_append_getElem h, List.flatten_append, List.flatten_cons, List.flatten_nil, List.append_nil, List.getD_eq_getElem?_getD, List.getElem?_eq_getElem h]
  rfl
theorem take_len (pss : List (List Ng)) (k : Nat) : (pss.take k).flatten.length ≤ pss.flatten.length := by
  have := congrArg (fun l => (List.flatten l).length) (List.take_append_drop k pss)
  simp only [List.flatten_append, List.length_append] at this
  omega

set_option maxRecDepth 100000 in
set_option maxHeartbeats 16000000 in
theorem walk (a : Option Addr) (ca : Nat) (t : List Ng) (w : World) (hA : CV w a (flatG t)) (ha0 : a = none → ca = 0) (hac : t.length ≤ ca) (hax : ca ≤ maxLen) (hal : t.length * 72 ≤ 140737488355328) (hao : ∀ x ∈ t, x.ok) :
    Calls Try.prog 6 #[.slice a t.length ca] w fun e w' => e = .returned (.bool true) ∧ w.grownBy w' none := by
  have HA : Hid (CV w a (flatG t)) := hA
  have HN : Hid (∀ x ∈ t, x.n ≤ 4294967295) := fun x hx => (hao x hx).1
  obtain ⟨i0, hi, hz0, hz1, hz2⟩ := info_parts info40
  have HI : Hid (Try.prog.info? 40 = some i0 ∧ i0.zero = some (.agg nd0.cells.toArray) ∧ i0.size = 24 ∧ i0.bytes = 72) := ⟨hi, hz0, hz1, hz2⟩
  have C1 := gcopy_any a ca t w hA ha0 (by omega)
  have HHA0 : Hid (a = none → ca = 0) := ha0
  have hax2 : ca ≤ 9223372036854775807 := by unfold maxLen at hax; omega
  clear hA hao hi hz0 hz1 hz2 ha0 hax
  cases hp : partsG t with
  | none =>
    go_enter Try.func6, Try.ntmps6
    go_wp2_with fail
    refine C1.mono ?_
    rintro e1 w1 ⟨v1, rfl, O1, K1⟩
    obtain ⟨a1, c1, rfl, D1, hl1, hm1, -⟩ := cv_of_row O1
    have CP := parts_any a1 c1 t w1 D1 hl1 hm1 (by omega)
    rw [hp] at CP
    clear C1 O1 D1 hl1 hm1
    go_wp2_with fail
    refine CP.mono ?_
    rintro e2 w2 ⟨v2, hR, -, K2⟩
    simp only [partsR, nilV] at hR
    subst hR
    have G2 := grown_trans K1 K2
    clear CP K1 K2
    go_wp2_with fail
    refine (awake12_any _).mono ?_
    rintro e9 w9 ⟨rfl, K9⟩
    go_wp2
    go_ret
    exact ⟨rfl, grown_trans G2 K9⟩
  | some pss =>
    obtain ⟨x, ar, ht, har, hpl, hst⟩ := parts_lists hp
    have HT : Hid (t = pss.flatten ++ [x]) := ht
    have HAR : Hid (arG x.kind = some ar ∧ pss.length = ar ∧ ∀ st, walkG [] 0 pss.flatten = .ok st → Stands st pss) := ⟨har, hpl, hst⟩
    have hp2 : pss.length ≤ 2 := hpl ▸ arG_le har
    have hL : t.length = pss.flatten.length + 1 := by rw [ht, List.length_append]; rfl
    have hLt : pss.flatten.length < t.length := by omega
    have HWS : Hid (weightG t = weightG pss.flatten + weightG [x]) := by show weightG t = _; rw [ht, weightG_app]
    clear ht har hst hpl
    have HPL : Hid (∀ k, k ≤ pss.length → (pss.take k).flatten.length ≤ pss.flatten.length) := fun k _ => take_len pss k
    have HDR : Hid (t.drop pss.flatten.length = [x]) := by
      show List.drop _ t = _
      rw [HT.out, List.drop_left]
    obtain ⟨b, o, rfl, -⟩ := HA.out.ngs hLt
    obtain ⟨L, hLL⟩ : ∃ L, pss.flatten.length = L := ⟨_, rfl⟩
    have HLL : Hid (pss.flatten.length = L) := hLL
    have e0 : ((t.length : Int) == 0) = false := by rw [beq_eq_false_iff_ne]; omega
    have w1' : IntKind.i64.wrap ((t.length : Int) - 1) = (L : Int) := by rw [IntKind.wrap_i64]; omega
    have hp3 : decide ((2 : Int) < (pss.length : Int)) = false := by rw [decide_eq_false_iff_not]; omega
    have hl : (L : Int) < (t.length : Int) := by omega
    have z0 : (0 : Int) ≤ (L : Int) := by omega
    have hlc : (L : Int) ≤ (ca : Int) := by omega
    have hlc2 : ¬ ca < L := by omega
    have hlc3 : (L : Int) ≤ (t.length : Int) := by omega
    have HCT : Hid (∀ W, w.grownBy W none → CV W (some ⟨b, o + L * 24, none⟩) (flatG [x])) := fun W GW => by
      have := cv_dropG (HA.out.keptNone GW) L (by omega)
      rw [← HLL.out, HDR.out, HLL.out] at this
      exact this
    have HHL : Hid (t.length = L + 1 ∧ L < ca) := ⟨by omega, by omega⟩
    clear hL hLt hLL
    go_enter Try.func6, Try.ntmps6
    go_wp2_with fail
    refine C1.mono ?_
    rintro e1 w1 ⟨v1, rfl, O1, K1⟩
    obtain ⟨a1, c1, rfl, D1, hl1, hm1, -⟩ := cv_of_row O1
    have CP := parts_any a1 c1 t w1 D1 hl1 hm1 (by omega)
    rw [hp] at CP
    clear C1 O1 D1 hl1 hm1
    go_wp2_with fail
    refine CP.mono ?_
    rintro e2 w2 ⟨v2, hR, hW, K2⟩
    simp only [partsR, partsW] at hR hW
    subst hR
    obtain ⟨vs, NL⟩ := hW
    obtain ⟨aP, cP, rfl, -⟩ := cv_of_row NL.1
    have HNL : Hid (NLv w2 w1.heap.size (.slice aP pss.length cP) vs pss) := NL
    have G2 := grown_trans K1 K2
    clear CP K1 K2 NL hp
    go_upto_region 7 with fail
    have CC := gcopy_any (some ⟨b, o + L * 24, none⟩) (ca - L) [x] w2 (HCT.out _ G2) (fun e => by cases e) (by rw [List.length_singleton]; decide)
    have hc1 : t.length - L = 1 := by have := HHL.out.1; omega
    go_wp2_with fail
    refine CC.mono ?_
    rintro e3 w3 ⟨v3, rfl, O3, K3⟩
    obtain ⟨a3, c3, rfl, D3, -⟩ := cv_of_row O3
    have CW := weight_any a3 c3 [x] w3 D3 (by rw [List.length_singleton]; decide)
    clear CC O3 D3
    go_wp2_with fail
    refine CW.mono ?_
    rintro e4 w4 ⟨rfl, K4⟩
    have HG4 : Hid (w.grownBy w4 none) := grown_trans G2 (grown_trans K3 K4)
    have HN4 : Hid (NLv w4 w1.heap.size (.slice aP pss.length cP) vs pss) := nl_kept HNL.out (grown_trans K3 K4)
    have hx80 := weightG_le [x]
    rw [List.length_singleton] at hx80
    have hf80 := weightG_le pss.flatten
    rw [HLL.out] at hf80
    clear CW G2 K3 K4 HNL hc1
    go_wp2
    go_loopw [5, 6, 7] (fun v s i wr => ∃ k : Nat, k ≤ pss.length ∧ i = .int .i64 k ∧ s = .int .i64 ((weightG [x] + weightG (pss.take k).flatten : Nat) : Int) ∧ Hid (w4.grownBy wr none ∧ NgOwns wr w4.heap.size v (pss.take k).flatten)) (fun _ _ i _ => pss.length - (intOf i).toNat)
    case atStart => exact ⟨0, Nat.zero_le _, rfl, rfl, World.grownBy.refl _ _, rfl, .inl ⟨rfl, rfl⟩⟩
    case round =>
      obtain ⟨k, hk, rfl, rfl, HR⟩ := hrel
      by_cases hlt : k < pss.length
      · obtain ⟨g, c6, ao, ck, e6, hcell, CVP, hk0⟩ := nl_item HN4.out hlt
        simp only [Value.slice.injEq] at e6
        obtain ⟨rfl, -, rfl⟩ := e6
        obtain ⟨q, hq⟩ : ∃ q, pss.getD k [] = q := ⟨_, rfl⟩
        have HCELL : Hid (∀ W, w4.grownBy W none → W.cell? ⟨g, k, none⟩ = some (.slice ao q.length ck)) := fun W GW => hq ▸ nl_cell HN4.out hlt hcell GW
        rw [hq] at CVP
        have HCVP : Hid (∀ W, w4.grownBy W none → CV W ao (flatG q)) := fun W GW => CVP.keptNone GW
        have HK0 : Hid (ao = none → ck = 0) := hk0
        have HQ : Hid ((pss.take (k + 1)).flatten = (pss.take k).flatten ++ q) := hq ▸ take_flat hlt
        have hb := take_len pss (k + 1)
        rw [HQ.out, List.length_append, HLL.out] at hb
        have hw80 := weightG_le (pss.take k).flatten
        have hq80 := weightG_le q
        have htl := HHL.out.1
        have HW : Hid (weightG (pss.take (k + 1)).flatten = weightG (pss.take k).flatten + weightG q) := by show weightG _ = _; rw [HQ.out, weightG_app]
        obtain ⟨R, hR⟩ : ∃ R, (pss.take k).flatten = R := ⟨_, rfl⟩
        rw [hR] at hb hw80 HR HQ HW ⊢
        obtain ⟨S, hS⟩ : ∃ S, weightG [x] + weightG R = S := ⟨_, rfl⟩
        have HS : Hid (weightG [x] + weightG (pss.take (k + 1)).flatten = S + weightG q) := by show _ = _; rw [HW.out, ← hS, Nat.add_assoc]
        have hS2 : S ≤ 80 * (L + 1) := by omega
        obtain ⟨U, hU⟩ : ∃ U, weightG q = U := ⟨_, rfl⟩
        rw [hU] at HS hq80
        have HU : Hid (weightG q = U) := hU
        rw [hS]
        have ck0 := HCELL.out wr HR.out.1
        have hl : (k : Int) < (pss.length : Int) := by omega
        have z0 : (0 : Int) ≤ (k : Int) := by omega
        have w3' : IntKind.i64.wrap ((k : Int) + 1) = (k : Int) + 1 := by rw [IntKind.wrap_i64]; omega
        have w4' : IntKind.i64.wrap ((S : Int) + (U : Int)) = (S : Int) + (U : Int) := by rw [IntKind.wrap_i64]; omega
        have HLA : Hid (R.length + q.length ≤ maxLen ∧ (R.length + q.length) * 72 ≤ 140737488355328 ∧ q.length * 72 ≤ 140737488355328) := by refine ⟨?_, ?_, ?_⟩ <;> (try unfold maxLen) <;> omega
        clear hb hw80 hq80 hcell CVP hk0 hR hS hU hq HW hS2 htl
        go_upto_region 12 with (at_builtin; refine wpList_append_cv rfl (.tmp 49) (.tmp 53) 22 rfl 40 i0 _ 24 72 Try.underlying22 HI.out.1 HI.out.2.1 HI.out.2.2.1 HI.out.2.2.2 rfl (by decide) w4.heap.size _ R.length (flatG R) rfl HR.out.2 ao q.length ck (flatG q) rfl (flatG_len q) HK0.out (HCVP.out _ HR.out.1) (flatG_one q) HLA.out.1 HLA.out.2.1 HR.out.1.size ?_; intro v6 w5 O6 K6)
        rw [← flatG_append] at O6
        have G5 : w4.grownBy w5 none := grown_trans_new HR.out.1 K6 (fun y hy => (HR.out.2.lt y hy).1)
        have ck1 := HCELL.out w5 G5
        have HO6 : Hid (NgOwns w5 w4.heap.size v6 (R ++ q)) := by
          show NgOwns w5 w4.heap.size v6 (R ++ q)
          unfold NgOwns
          rw [List.length_append]
          exact O6
        have CW := weight_any ao ck q w5 (HCVP.out _ G5) HLA.out.2.2
        rw [HU.out] at CW
        clear O6 K6 ck0
        go_wp2_with fail
        refine CW.mono ?_
        rintro e7 w7 ⟨rfl, K7⟩
        have HF : Hid (w4.grownBy w7 none ∧ NgOwns w7 w4.heap.size v6 (pss.take (k + 1)).flatten) := ⟨grown_trans G5 K7, by rw [HQ.out]; exact World.ownsRow.kept HO6.out K7 (by cases v6.ownBlock <;> simp)⟩
        clear CW G5 K7 ck1 HO6
        go_wp2
        go_roundw
        case rel => exact ⟨k + 1, by omega, by go_num, by rw [HS.out]; simp, HF.out⟩
        case measure => simp [intOf]; omega
      · obtain rfl : k = pss.length := by omega
        have hl' : ¬ (pss.length : Int) < (pss.length : Int) := by omega
        rw [List.take_length] at HR ⊢
        have HO : Hid (w4.grownBy wr none ∧ wr.ownsRow w4.heap.size 40 24 u5 L (flatG pss.flatten)) := ⟨HR.out.1, by have := HR.out.2; unfold NgOwns at this; rw [HLL.out] at this; exact this⟩
        rw [show ((weightG [x] + weightG pss.flatten : Nat) : Int) = ((weightG t : Nat) : Int) by rw [HWS.out, Nat.add_comm]]
        obtain ⟨U, hU⟩ : ∃ U, weightG t = U := ⟨_, rfl⟩
        have HU : Hid (weightG t = U) := hU
        rw [hU]
        have HLA : Hid (L + 1 ≤ maxLen ∧ (L + 1) * 72 ≤ 140737488355328) := by
          have := HHL.out.1
          refine ⟨?_, ?_⟩ <;> (try unfold maxLen) <;> omega
        have HRX : Hid (∀ W, w.grownBy W none → W.rangeAt b (o + L * 24) x.cells) := fun W GW => by
          obtain ⟨b', o', e', hc⟩ := (HCT.out W GW).ngs (k := 0) (by simp)
          simp only [Option.some.injEq, Addr.mk.injEq] at e'
          obtain ⟨rfl, rfl, -⟩ := e'
          have := hc 0 (by simp)
          simpa using this
        have HXK : Hid (∀ W, w.grownBy W none → W.cell? ⟨b, o + L * 24, none⟩ = some (.int .i64 x.kind)) := fun W GW => by
          have := HRX.out W GW 0 (.int .i64 x.kind) rfl
          rw [Nat.add_zero] at this
          exact this
        have HXC : Hid ((Try.prog.info? 40).map (·.size) = some x.cells.length ∧ x.cells.length = 1 * 24 ∧ (∀ z ∈ x.cells, z.oneCell' = true) ∧ flatG t = flatG pss.flatten ++ x.cells) := ⟨ng_len _, rfl, Ng.cells_one _, by show flatG t = _; rw [HT.out, flatG_append, flatG_one1]⟩
        have HLI : Hid _ := lit_n1 x
        rw [flatG_one1] at HLI
        obtain ⟨cs, hcs⟩ : ∃ cs, x.cells = cs := ⟨_, rfl⟩
        rw [hcs] at HXC HLI HRX
        have HGR : Hid (w.grownBy wr none) := grown_trans HG4.out HO.out.1
        have HOK : Hid (∀ W, wr.grownBy W none → W.ownsRow w4.heap.size 40 24 u5 L (flatG pss.flatten)) := fun W GW => HO.out.2.kept GW (by cases u5.ownBlock <;> simp)
        clear HR hU hcs hf80 hx80
        go_upto_region 14 with (first | refine wpList_load_mid rfl 40 (.tmp 67) rfl b (o + L * 24) (by simp [Act.eval]) cs _ (HRX.out _ HGR.out) Try.underlying40 rfl HXC.out.1 ?_ | (refine wpList_lit (by rfl) 22 1 #[(0, .tmp 68)] rfl #[(0, .agg cs.toArray)] (by kernel_rfl) cs 40 HLI.out ?_; intro V wl C4 K4) | (at_builtin; refine wpList_append_cv rfl (.tmp 62) (.tmp 69) 22 rfl 40 i0 _ 24 72 Try.underlying22 HI.out.1 HI.out.2.1 HI.out.2.2.1 HI.out.2.2.2 rfl (by decide) w4.heap.size _ L (flatG pss.flatten) rfl (HOK.out _ K4) (some ⟨V, 0, none⟩) 1 1 cs rfl HXC.out.2.1 (fun e => by cases e) C4 HXC.out.2.2.1 HLA.out.1 HLA.out.2 (Nat.le_trans HO.out.1.size K4.size) ?_; intro v7 w7 O7 K7))
        rw [← HXC.out.2.2.2, ← HHL.out.1] at O7
        have J7 : w4.grownBy w7 none := grown_trans_new (grown_trans HO.out.1 K4) K7 (fun y hy => (HO.out.2.lt y hy).1)
        obtain ⟨a7, c7, rfl, D7, -⟩ := cv_of_row O7
        have CS := gsame_any a7 (some ⟨b, o, none⟩) c7 ca t w7 D7 (HA.out.keptNone (grown_trans HG4.out J7)) (by omega)
        clear O7 K7 C4 K4 D7 HRX HLI HO HGR
        clear hl'
        go_wp2_with fail
        refine CS.mono ?_
        rintro e8 w8 ⟨rfl, n8, rfl⟩
        have J8 := grown_trans J7 (grown_drewN w7 n8 none)
        generalize w7.drewN n8 = w8 at *
        have CC := gcopy_any (some ⟨b, o, none⟩) ca t w8 (HA.out.keptNone (grown_trans HG4.out J8)) HHA0.out (by omega)
        clear CS J7
        go_wp2_with fail
        refine CC.mono ?_
        rintro e9 w9 ⟨v9, rfl, O9, K9⟩
        obtain ⟨a9, c9, rfl, D9, -⟩ := cv_of_row O9
        have CW := weight_any a9 c9 t w9 D9 (by omega)
        rw [HU.out] at CW
        have hUU : ((U : Int) != (U : Int)) = false := by simp
        clear CC O9 D9
        go_wp2_with fail
        refine CW.mono ?_
        rintro e10 w10 ⟨rfl, K10⟩
        have JA := grown_trans J8 (grown_trans K9 K10)
        have CC := gcopy_any (some ⟨b, o, none⟩) ca t w10 (HA.out.keptNone (grown_trans HG4.out JA)) HHA0.out (by omega)
        clear CW J8 K9 K10
        go_wp2_with fail
        refine CC.mono ?_
        rintro e11 w11 ⟨v11, rfl, O11, K11⟩
        obtain ⟨a11, c11, rfl, D11, -⟩ := cv_of_row O11
        obtain ⟨p, e, hpe⟩ : ∃ (p : Nat) (e : Int), checkG t = (p, e) := ⟨_, _, rfl⟩
        have CK := check12_any a11 c11 t w11 D11 (by omega) HN.out
        rw [checkR, hpe] at CK
        have HPE : Hid ((checkG t).2 = e) := by show _ = e; rw [hpe]
        clear hpe CC O11 D11
        go_wp2_with fail
        refine CK.mono ?_
        rintro e12 w12 ⟨rfl, K12⟩
        have HJB : Hid (w4.grownBy w12 none) := grown_trans JA (grown_trans K11 K12)
        clear CK JA K11 K12
        go_wp2
        clear hUU HXC HLA hk hlt HOK
        go_loopw [10] (fun i wr => ∃ k : Nat, k ≤ pss.length ∧ i = .int .i64 k ∧ Hid (w4.grownBy wr none)) (fun i _ => pss.length - (intOf i).toNat)
        case atStart => exact ⟨0, Nat.zero_le _, rfl, HJB.out⟩
        case round =>
          obtain ⟨k, hk, rfl, HR⟩ := hrel
          by_cases hlt : k < pss.length
          · obtain ⟨g, c6, ao, ck, e6, hcell, CVP, hk0⟩ := nl_item HN4.out hlt
            simp only [Value.slice.injEq] at e6
            obtain ⟨rfl, -, rfl⟩ := e6
            have hqe : pss.getD k [] = pss[k] := by rw [List.getD_eq_getElem?_getD, List.getElem?_eq_getElem hlt]; rfl
            have hb := take_len pss (k + 1)
            rw [take_flat hlt, List.length_append, HLL.out] at hb
            have htl := HHL.out.1
            obtain ⟨q, hq⟩ : ∃ q, pss.getD k [] = q := ⟨_, rfl⟩
            have hqm : q ∈ pss := by rw [← hq, hqe]; exact List.getElem_mem hlt
            have ck0 : wr.cell? ⟨g, k, none⟩ = some (.slice ao q.length ck) := hq ▸ nl_cell HN4.out hlt hcell HR.out
            rw [hq] at CVP hb
            obtain ⟨pq, f, hpf⟩ : ∃ (pq : Nat) (f : Int), checkG q = (pq, f) := ⟨_, _, rfl⟩
            have HF : Hid (e = 0 → f = if wantsG x.kind = true then 0 else 121) := fun he => by
              have := parts_filt HT.out HAR.out.1 HAR.out.2.1 HAR.out.2.2 (HPE.out.trans he) k hlt
              rw [← hqe, hq, hpf] at this
              exact this
            have CK := check12_any ao ck q wr (CVP.keptNone HR.out) (by omega) (fun z hz => HN.out z (by rw [HT.out]; exact List.mem_append_left _ (List.mem_flatten.2 ⟨q, hqm, hz⟩)))
            rw [checkR, hpf] at CK
            have hl3 : (k : Int) < (pss.length : Int) := by omega
            have z3 : (0 : Int) ≤ (k : Int) := by omega
            have w3' : IntKind.i64.wrap ((k : Int) + 1) = (k : Int) + 1 := by rw [IntKind.wrap_i64]; omega
            clear hb htl hqm hcell CVP hpf hqe hq hk0
            go_wp2_with fail
            refine CK.mono ?_
            rintro e13 w13 ⟨rfl, K13⟩
            have J13 := grown_trans HR.out K13
            have c0 := HXK.out w13 (grown_trans HG4.out J13)
            obtain ⟨xk, hxk⟩ : ∃ xk, x.kind = xk := ⟨_, rfl⟩
            rw [hxk] at c0 HF
            have h4 : xk = 7 ∨ xk = 8 ∨ xk = 9 ∨ (xk ≠ 7 ∧ xk ≠ 8 ∧ xk ≠ 9) := by omega
            clear CK K13 ck0 hxk
            by_cases he : e = 0
            · have hf := HF.out he
              have te : (e == 0) = true := by simpa using he
              clear he HF
              rcases h4 with rfl | rfl | rfl | ⟨h7, h8, h9⟩
              · obtain rfl : f = 0 := by rw [hf]; rfl
                clear hf
                go_wp2
                go_roundw
                case rel => exact ⟨k + 1, by omega, by go_num, J13⟩
                case measure => simp [intOf]; omega
              · obtain rfl : f = 0 := by rw [hf]; rfl
                clear hf
                go_wp2
                go_roundw
                case rel => exact ⟨k + 1, by omega, by go_num, J13⟩
                case measure => simp [intOf]; omega
              · obtain rfl : f = 0 := by rw [hf]; rfl
                clear hf
                go_wp2
                go_roundw
                case rel => exact ⟨k + 1, by omega, by go_num, J13⟩
                case measure => simp [intOf]; omega
              · have hw : wantsG xk = false := by unfold wantsG; rw [decide_eq_false_iff_not]; omega
                obtain rfl : f = 121 := by rw [hf, hw]; rfl
                have t7 : (xk == 7) = false := by rw [beq_eq_false_iff_ne]; exact h7
                have t8 : (xk == 8) = false := by rw [beq_eq_false_iff_ne]; exact h8
                have t9 : (xk == 9) = false := by rw [beq_eq_false_iff_ne]; exact h9
                clear hf hw h7 h8 h9
                go_wp2
                go_roundw
                case rel => exact ⟨k + 1, by omega, by go_num, J13⟩
                case measure => simp [intOf]; omega
            · have te : (e == 0) = false := by rw [beq_eq_false_iff_ne]; exact he
              clear he HF
              rcases h4 with rfl | rfl | rfl | ⟨h7, h8, h9⟩
              · skip
                go_wp2
                go_roundw
                case rel => exact ⟨k + 1, by omega, by go_num, J13⟩
                case measure => simp [intOf]; omega
              · skip
                go_wp2
                go_roundw
                case rel => exact ⟨k + 1, by omega, by go_num, J13⟩
                case measure => simp [intOf]; omega
              · skip
                go_wp2
                go_roundw
                case rel => exact ⟨k + 1, by omega, by go_num, J13⟩
                case measure => simp [intOf]; omega
              · have t7 : (xk == 7) = false := by rw [beq_eq_false_iff_ne]; exact h7
                have t8 : (xk == 8) = false := by rw [beq_eq_false_iff_ne]; exact h8
                have t9 : (xk == 9) = false := by rw [beq_eq_false_iff_ne]; exact h9
                clear h7 h8 h9
                go_wp2
                go_roundw
                case rel => exact ⟨k + 1, by omega, by go_num, J13⟩
                case measure => simp [intOf]; omega
          · obtain rfl : k = pss.length := by omega
            have hl' : ¬ (pss.length : Int) < (pss.length : Int) := by omega
            go_wp2_with fail
            refine (awake12_any _).mono ?_
            rintro e14 w14 ⟨rfl, K14⟩
            go_wp2
            go_ret
            exact ⟨rfl, grown_trans (grown_trans HG4.out HR.out) K14⟩

set_option maxRecDepth 100000 in
theorem lifted (os : Os) (started : os.Started) (H : Type) (enc : TypeId × Value → H) :
    ReturnsInHanded {} Try.checked os 6 .any (Rows.typesWholeSpec.pre6 enc Try.prog Try.f6 Rows.typesWholeRow.domain false) (Rows.typesWholeSpec.post enc Try.prog Try.f6 false true false false) := by
  refine returnsInHanded_of_change_sized (C := Try.checked) own started (by kernel_rfl) Try.func6
    (ChangeSpec.witness6 (enc := enc) (C := Try.checked) false ⟨#[], #[.slice none 0 0], []⟩ 8 (by kernel_rfl) (by kernel_rfl) (by kernel_rfl) (by kernel_rfl)) ?_
  intro W base args ds gs before hval0 hW hcnd hsz0 _
  have hsz : (DataW.weightsEach Try.prog (Try.f6.params.toList ++ Rows.typesWholeSpec.plain.varTypes Try.prog) (ds ++ gs)).all (· ≤ reachBytes) = true := hsz0
  have hval : ∀ (j : Nat) t v, Try.f6.params[j]? = some t → args[j]? = some v → Value.okWide Try.prog W .any base t v := hval0
  have hW' := hW
  obtain ⟨p, q, hA0, hV, rfl, hfz, hnd⟩ := hW
  have hA : DataW.TrodAll enc Try.prog W 0 (fun _ => true) true Try.f6.params.toList args.toList ds p := hA0
  rw [Try.params6] at hA hval hsz
  obtain ⟨v0, vs0, d0, ds0, p0, q0, hargs, rfl, rfl, h0, r0⟩ := trodAll_cons hA
  obtain ⟨rfl, rfl, rfl⟩ := trodAll_nil r0
  obtain rfl : args = #[v0] := by cases args; simp_all
  obtain ⟨rfl, rfl⟩ := trodVars_none hV
  obtain ⟨a0, len0, cap0, rfl⟩ := okWide_slice Try.underlying22 (hval 0 22 v0 rfl rfl)
  have k0 := h0
  have lt0 : ∀ x ∈ p0, x.block < W.heap.size := by obtain ⟨m, hm⟩ := k0; exact DataW.trod_lt m _ _ _ hm
  obtain ⟨xs0, rfl, hcells0, hnil0, hcp0, hok0, hdat0⟩ := open_nodes h0
  have hlen0 : xs0.length * 72 ≤ 140737488351232 := by
    rcases hdat0 with ⟨_, rfl⟩ | ⟨elems, spare, rfl, hle⟩
    · simp
    · have := sized_slice hsz (j := 0) (t := 22) (e := 40) rfl rfl Try.underlying22
      rw [bytes40] at this
      unfold reachBytes at this
      omega
  clear hA0 hval0
  refine (walk a0 cap0 xs0 W hcells0 hnil0 hcp0.1 hcp0.2 (by omega) hok0).mono fun e W' ⟨he, hg⟩ => ?_
  subst he
  have bel : Below W.heap.size W W' := (Below.refl _ _).grown hg (Nat.le_refl _) (by simp)
  exact ⟨_, rfl, _, _, _, [], _, [], hW', trodAll_mk1 (shut_bool Try.underlying4 _), (trodAll_cons_mk (Below.trod laidOut (by kernel_rfl) (of_decide_eq_true (by kernel_rfl)) k0 bel lt0) trodAll_mk0), rfl, bel.frame _, fun h => by cases h⟩

theorem over : Rows.TypesWholeSaid :=
  OpenClaim.holds_of_wide 6 Try.f6 rfl rfl rfl rfl rfl rfl rfl ⟨rfl, rfl, rfl, rfl, rfl⟩ rfl rfl rfl rfl rfl (by kernel_rfl) Try.func6 (by kernel_rfl)
    (of_decide_eq_true (by kernel_rfl)) (by unfold Func.isWrapper; first | (rw [if_pos (by decide +kernel)]; kernel_rfl) | (rw [if_neg (by decide +kernel)]; exact ⟨rfl, rfl⟩))
    (fun os started H enc _ => lifted os started H enc)

end typesWhole

theorem typesWhole_holds : Rows.TypesWholeSaid := typesWhole.over
#print axioms typesWhole_holds

end Go.Proofs.Ytdajpnlpcdnckaa
