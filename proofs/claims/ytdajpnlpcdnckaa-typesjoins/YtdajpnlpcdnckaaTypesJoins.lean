/-
  For every two lists of nodes (of such size as the form itself says of each argument) riddlelaw12.TypesJoins returns true and leaves what was there as it was: no condition of ours.
-/
import Derived.Test.YtdajpnlpcdnckaaLotP29
import Derived.Test.YtdajpnlpcdnckaaAwake12
import Derived.Test.YtdajpnlpcdnckaaOpenN
namespace Go.Proofs.Ytdajpnlpcdnckaa
open Go.ChangeShapes Go.WideShapes Go.ChangeAt Go.RowKit
set_option maxRecDepth 100000
namespace typesJoins

theorem lit_four (W : World) : (Instr.buildSlice 22 4 #[(0, .agg adN.cells.toArray), (1, .agg orN.cells.toArray), (2, .agg rlN.cells.toArray), (3, .agg arN.cells.toArray)]).run Try.prog W = .ok (.slice (some ⟨W.heap.size, 0, none⟩) 4 4) (W.alloc (.cells (flatG [adN, orN, rlN, arN]).toArray 40)) := by kernel_rfl

set_option maxRecDepth 100000 in
set_option maxHeartbeats 16000000 in
theorem walk (a : Option Addr) (ca : Nat) (t : List Ng) (b : Option Addr) (cb : Nat) (u : List Ng) (w : World) (hA : CV w a (flatG t)) (ha0 : a = none → ca = 0) (_hac : t.length ≤ ca) (_hax : ca ≤ maxLen) (hal : t.length * 72 ≤ 140737488355328) (hao : ∀ x ∈ t, x.ok)
    (hB : CV w b (flatG u)) (hb0 : b = none → cb = 0) (_hbc : u.length ≤ cb) (_hbx : cb ≤ maxLen) (hbl : u.length * 72 ≤ 140737488355328) (hbo : ∀ x ∈ u, x.ok) :
    Calls Try.prog 7 #[.slice a t.length ca, .slice b u.length cb] w fun e w' => e = .returned (.bool true) ∧ w.grownBy w' none := by
  have HA : Hid (CV w a (flatG t)) := hA
  have HB : Hid (CV w b (flatG u)) := hB
  have HN : Hid (∀ x ∈ t, x.n ≤ 4294967295) := fun x hx => (hao x hx).1
  have HM : Hid (∀ x ∈ u, x.n ≤ 4294967295) := fun x hx => (hbo x hx).1
  obtain ⟨i0, hi, hz0, hz1, hz2⟩ := info_parts info40
  have HI : Hid (Try.prog.info? 40 = some i0 ∧ i0.zero = some (.agg nd0.cells.toArray) ∧ i0.size = 24 ∧ i0.bytes = 72) := ⟨hi, hz0, hz1, hz2⟩
  have C1 := gcopy_any a ca t w hA ha0 (by omega)
  have HHA0 : Hid (a = none → ca = 0) := ha0
  have HHB0 : Hid (b = none → cb = 0) := hb0
  clear hA hB hao hbo hi hz0 hz1 hz2 ha0 hb0
  obtain ⟨p, e, hpe⟩ : ∃ p e, checkG t = (p, e) := ⟨_, _, rfl⟩
  obtain ⟨q, f, hqf⟩ : ∃ q f, checkG u = (q, f) := ⟨_, _, rfl⟩
  have HPE : Hid (checkG t = (p, e)) := hpe
  have HQF : Hid (checkG u = (q, f)) := hqf
  have HCK : Hid (∀ (a1 : Option Addr) (c1 : Nat) (W : World), CV W a1 (flatG t) → Calls Try.prog 11 #[.slice a1 t.length c1] W fun e' w' => e' = .returned (.tuple #[.int .i64 (p : Int), .int .i64 e]) ∧ W.grownBy w' none) := fun a1 c1 W CW => by
    have := check12_any a1 c1 t W CW (by omega) HN.out
    rw [checkR, hpe] at this
    exact this
  have HCL : Hid (∀ (a1 : Option Addr) (c1 : Nat) (W : World), CV W a1 (flatG u) → Calls Try.prog 11 #[.slice a1 u.length c1] W fun e' w' => e' = .returned (.tuple #[.int .i64 (q : Int), .int .i64 f]) ∧ W.grownBy w' none) := fun a1 c1 W CW => by
    have := check12_any a1 c1 u W CW (by omega) HM.out
    rw [checkR, hqf] at this
    exact this
  clear hpe hqf
  go_enter Try.func7, Try.ntmps7
  go_wp2_with fail
  refine C1.mono ?_
  rintro e1 w1 ⟨v1, rfl, O1, K1⟩
  obtain ⟨a1, c1, rfl, D1, -⟩ := cv_of_row O1
  have CK := HCK.out a1 c1 w1 D1
  clear C1 O1 D1
  go_wp2_with fail
  refine CK.mono ?_
  rintro e2 w2 ⟨rfl, K2⟩
  have G2 := grown_trans K1 K2
  have C2 := gcopy_any b cb u w2 (HB.out.keptNone G2) HHB0.out (by omega)
  clear CK K1 K2 HCK
  go_wp2_with fail
  refine C2.mono ?_
  rintro e3 w3 ⟨v3, rfl, O3, K3⟩
  obtain ⟨a3, c3, rfl, D3, -⟩ := cv_of_row O3
  have CK := HCL.out a3 c3 w3 D3
  have G3 := grown_trans G2 K3
  clear C2 O3 D3 K3 G2
  go_wp2_with fail
  refine CK.mono ?_
  rintro e4 w4 ⟨rfl, K4⟩
  have G4 := grown_trans G3 K4
  clear CK K4 G3 HCL
  by_cases hef : e ≠ 0 ∨ f ≠ 0
  · have hef2 : (e != 0) = true ∨ ((e != 0) = false ∧ (f != 0) = true) := by
      by_cases h1 : e = 0
      · right; exact ⟨by simpa using h1, by rw [bne_iff_ne]; omega⟩
      · left; rw [bne_iff_ne]; exact h1
    clear hef
    rcases hef2 with h1 | ⟨h1, h2⟩
    all_goals
      go_wp2_with fail
      refine (awake12_any _).mono ?_
      rintro e9 w9 ⟨rfl, K9⟩
      go_wp2
      go_ret
      exact ⟨rfl, grown_trans G4 K9⟩
  · obtain rfl : e = 0 := by omega
    obtain rfl : f = 0 := by omega
    have hft : (checkG t).2 = 0 := by rw [HPE.out]
    have hfu : (checkG u).2 = 0 := by rw [HQF.out]
    have HFT : Hid ((checkG t).2 = 0) := hft
    have HFU : Hid ((checkG u).2 = 0) := hfu
    have hlt := filt_len hft
    have hlu := filt_len hfu
    clear hef hft hfu HPE HQF
    have CA := gcopy_any a ca t w4 (HA.out.keptNone G4) HHA0.out (by omega)
    have HLA : Hid (t.length + u.length ≤ maxLen ∧ (t.length + u.length) * 72 ≤ 140737488355328) := by refine ⟨?_, ?_⟩ <;> (try unfold maxLen) <;> omega
    have HG4 : Hid (w.grownBy w4 none) := G4
    have HL0 : Hid ((t ++ u).length = t.length + u.length) := List.length_append
    go_wp2_with fail
    refine CA.mono ?_
    rintro e5 w5a ⟨v5, rfl, O5, K5⟩
    clear CA G4
    go_wp2_with (at_builtin; refine wpList_append_cv rfl (.tmp 40) (.tmp 41) 22 rfl 40 i0 _ 24 72 Try.underlying22 HI.out.1 HI.out.2.1 HI.out.2.2.1 HI.out.2.2.2 rfl (by decide) w4.heap.size _ t.length (flatG t) rfl O5 b u.length cb (flatG u) rfl (flatG_len u) HHB0.out (HB.out.keptNone (grown_trans HG4.out K5)) (flatG_one u) HLA.out.1 HLA.out.2 K5.size ?_; intro v6 w5 O6 K6; rw [← flatG_append] at O6; have G5 : w.grownBy w5 none := grown_trans_new (grown_trans HG4.out K5) K6 (fun x hx => Nat.le_trans HG4.out.size (O5.lt x hx).1); obtain ⟨aA, cA, rfl, DA, -, -, hcA0, -, -⟩ := cv_of_row O6; have HDA : Hid (CV w5 aA (flatG (t ++ u))) := DA; have HCA0 : Hid (aA = none → cA = 0) := hcA0; clear O5 K5 O6 K6 DA hcA0)
    obtain ⟨NA, hNA⟩ : ∃ NA, t.length + u.length = NA := ⟨_, rfl⟩
    have HNA : Hid ((t ++ u).length = NA) := HL0.out.trans hNA
    have hNAl : NA ≤ 6000 := by omega
    rw [hNA]
    have HCP : Hid (∀ W, w5.grownBy W none → Calls Try.prog 20 #[.slice aA NA cA] W fun e w' => ∃ v, e = .returned v ∧ w'.ownsRow W.heap.size 40 24 v NA (flatG (t ++ u)) ∧ W.grownBy w' none) := fun W GW => by
      have := gcopy_any aA cA (t ++ u) W (HDA.out.keptNone GW) HCA0.out (by rw [HNA.out]; omega)
      rw [HNA.out] at this
      refine this.mono ?_
      rintro e w' ⟨v, rfl, O, K⟩
      exact ⟨v, rfl, by have := O; unfold NgOwns at this; rw [HNA.out] at this; exact this, K⟩
    have HWT : Hid (∀ (a1 : Option Addr) (c1 : Nat) (W : World), CV W a1 (flatG (t ++ u)) → Calls Try.prog 16 #[.slice a1 NA c1] W fun e' w' => e' = .returned (.int .i64 (weightG (t ++ u) : Int)) ∧ W.grownBy w' none) := fun a1 c1 W CW => by
      have := weight_any a1 c1 (t ++ u) W CW (by rw [HNA.out]; omega)
      rw [HNA.out] at this
      exact this
    have HG5 : Hid (w.grownBy w5 none) := G5
    clear hNA HLA HG4 G5 HDA HCA0 HL0
    go_wp2_with fail
    refine (HCP.out _ (World.grownBy.refl _ _)).mono ?_
    rintro e7 w7 ⟨v7, rfl, O7, K7⟩
    obtain ⟨a7, c7, rfl, D7, -⟩ := cv_of_row O7
    go_wp2_with fail
    refine (HWT.out _ _ _ D7).mono ?_
    rintro e8 w8 ⟨rfl, K8⟩
    have HK8 : Hid (w5.grownBy w8 none) := grown_trans K7 K8
    clear O7 D7 K7 K8 HWT
    obtain ⟨F, hF⟩ : ∃ F : Bool, decide ((weightG (t ++ u) : Int) < 3000) = F := ⟨_, rfl⟩
    have HF : Hid (decide (weightG (t ++ u) < 3000) = F) := by
      show _ = F
      rw [← hF]
      apply decide_eq_decide.2
      omega
    have HB1 : Hid (∀ W : World, (Instr.build 40 #[(0, .int .i64 7)]).run Try.prog W = .ok (.agg adN.cells.toArray) W) := fun W => by kernel_rfl
    have HB2 : Hid (∀ W : World, (Instr.build 40 #[(0, .int .i64 8)]).run Try.prog W = .ok (.agg orN.cells.toArray) W) := fun W => by kernel_rfl
    have HB3 : Hid (∀ W : World, (Instr.build 40 #[(0, .int .i64 6), (1, .int .i64 3)]).run Try.prog W = .ok (.agg rlN.cells.toArray) W) := fun W => by kernel_rfl
    have HB4 : Hid (∀ W : World, (Instr.build 40 #[(0, .int .i64 4), (1, .int .i64 1)]).run Try.prog W = .ok (.agg arN.cells.toArray) W) := fun W => by kernel_rfl
    have HB5 : Hid (∀ W : World, (Instr.build 40 #[(0, .int .i64 5)]).run Try.prog W = .ok (.agg miN.cells.toArray) W) := fun W => by kernel_rfl
    have HB6 : Hid (∀ W : World, (Instr.build 40 #[(0, .int .i64 9)]).run Try.prog W = .ok (.agg noN.cells.toArray) W) := fun W => by kernel_rfl
    have HL4 : Hid _ := lit_four
    have HLM : Hid _ := lit_n1 miN
    have HLN : Hid _ := lit_n1 noN
    obtain ⟨X1, hX1⟩ : ∃ X, adN.cells.toArray = X := ⟨_, rfl⟩
    obtain ⟨X2, hX2⟩ : ∃ X, orN.cells.toArray = X := ⟨_, rfl⟩
    obtain ⟨X3, hX3⟩ : ∃ X, rlN.cells.toArray = X := ⟨_, rfl⟩
    obtain ⟨X4, hX4⟩ : ∃ X, arN.cells.toArray = X := ⟨_, rfl⟩
    obtain ⟨X5, hX5⟩ : ∃ X, miN.cells.toArray = X := ⟨_, rfl⟩
    obtain ⟨X6, hX6⟩ : ∃ X, noN.cells.toArray = X := ⟨_, rfl⟩
    rw [hX1] at HB1 HL4
    rw [hX2] at HB2 HL4
    rw [hX3] at HB3 HL4
    rw [hX4] at HB4 HL4
    rw [hX5] at HB5 HLM
    rw [hX6] at HB6 HLN
    clear hX1 hX2 hX3 hX4 hX5 hX6
    have HG8 : Hid (w.grownBy w8 none) := grown_trans HG5.out HK8.out
    go_wp2
    clear hF
    go_loopw [11] (fun i wr => ∃ k : Nat, k ≤ 4 ∧ i = .int .i64 k ∧ Hid (w.grownBy wr none ∧ w5.grownBy wr none)) (fun i _ => 4 - (intOf i).toNat)
    case atStart => exact ⟨0, Nat.zero_le _, rfl, HG8.out, HK8.out⟩
    case round =>
      obtain ⟨k, hk, rfl, HGR⟩ := hrel
      by_cases hlt4 : k < 4
      · have hl : (k : Int) < 4 := by omega
        have z0 : (0 : Int) ≤ (k : Int) := by omega
        have w3' : IntKind.i64.wrap ((k : Int) + 1) = (k : Int) + 1 := by rw [IntKind.wrap_i64]; omega
        have HFC : Hid _ := four_check HFT.out HFU.out k hlt4
        obtain ⟨r1, r2, hr12⟩ : ∃ (r1 : Nat) (r2 : Int), checkG (t ++ u ++ [fourN k]) = (r1, r2) := ⟨_, _, rfl⟩
        have HRR : Hid (checkG (t ++ u ++ [fourN k]) = (r1, r2)) := hr12
        have HLX : Hid ((t ++ u ++ [fourN k]).length = NA + 1) := by show List.length _ = _; rw [List.length_append, HNA.out]; rfl
        have HCX : Hid (∀ (a1 : Option Addr) (c1 : Nat) (W : World), CV W a1 (flatG (t ++ u) ++ (fourN k).cells) → Calls Try.prog 11 #[.slice a1 (NA + 1) c1] W fun e' w' => e' = .returned (.tuple #[.int .i64 (r1 : Int), .int .i64 r2]) ∧ W.grownBy w' none) := fun a1 c1 W CW => by
          have := check12_any a1 c1 (t ++ u ++ [fourN k]) W (by rw [flatG_append, flatG_one1]; exact CW) (by rw [HLX.out]; omega) (fun x hx => by
            rcases List.mem_append.1 hx with hx | hx
            · rcases List.mem_append.1 hx with hx | hx
              · exact HN.out x hx
              · exact HM.out x hx
            · rw [List.mem_singleton.1 hx]
              have : k = 0 ∨ k = 1 ∨ k = 2 ∨ k = 3 := by omega
              rcases this with rfl | rfl | rfl | rfl <;> exact Nat.zero_le _)
          rw [checkR, HRR.out, HLX.out] at this
          exact this
        have HCASE : Hid ((decide ((1 : Int) < (k : Int)) = false ∧ decide ((k : Int) < 2) = true ∧ F = true ∧ (r2 != 0) = false ∧ True) ∨ (decide ((1 : Int) < (k : Int)) = false ∧ decide ((k : Int) < 2) = true ∧ F = false ∧ (r2 != 126) = false ∧ True) ∨ (decide ((1 : Int) < (k : Int)) = true ∧ decide ((k : Int) < 2) = false ∧ (r2 != 122) = false ∧ ((r1 : Int) != (NA : Int)) = false)) := by
          have h := HFC.out
          rw [hr12] at h
          by_cases h2 : k < 2
          · have h3 := h.2 h2
            by_cases hf : weightG (t ++ u) < 3000
            · left
              rw [if_pos hf] at h3
              refine ⟨decide_eq_false (by omega), decide_eq_true (by omega), by rw [← HF.out]; exact decide_eq_true hf, ?_, trivial⟩
              have h3' : r2 = 0 := h3
              rw [h3']; rfl
            · right; left
              rw [if_neg hf] at h3
              refine ⟨decide_eq_false (by omega), decide_eq_true (by omega), by rw [← HF.out]; exact decide_eq_false hf, ?_, trivial⟩
              have h3' : r2 = 126 := h3
              rw [h3']; rfl
          · right; right
            have h3 := h.1 (by omega)
            rw [HNA.out] at h3
            simp only [Prod.mk.injEq] at h3
            obtain ⟨rfl, rfl⟩ := h3
            exact ⟨decide_eq_true (by omega), decide_eq_false (by omega), rfl, by simp⟩
        have HXC : Hid ((fourN k).cells.toArray.toList = (fourN k).cells ∧ (Try.prog.info? 40).map (·.size) = some (fourN k).cells.length ∧ (Try.prog.info? 40).map (·.size) = some (fourN k).cells.toArray.size ∧ 24 = (fourN k).cells.toArray.size ∧ (fourN k).cells.toArray.all (·.oneCell') = true) := ⟨rfl, ng_len _, ng_size _, rfl, ng_all _⟩
        have HLI : Hid _ := lit_n1 (fourN k)
        have HXL : Hid ((fourN k).cells.length = 1 * 24 ∧ ∀ z ∈ (fourN k).cells, z.oneCell' = true) := ⟨rfl, Ng.cells_one _⟩
        have HF4 : Hid (∀ (W : World) (V : Nat), CV W (some ⟨V, 0, none⟩) (flatG [adN, orN, rlN, arN]) → W.rangeAt V (k * 24) (fourN k).cells) := fun W V CW => by
          obtain ⟨b', o', e', hc⟩ := CW.ngs (k := k) (by simpa using hlt4)
          simp only [Option.some.injEq, Addr.mk.injEq] at e'
          obtain ⟨rfl, rfl, -⟩ := e'
          have := hc k (by simpa using hlt4)
          rw [Nat.zero_add] at this
          have e4 : ([adN, orN, rlN, arN] : List Ng)[k]'(by simpa using hlt4) = fourN k := by
            unfold fourN
            rw [List.getD_eq_getElem?_getD, List.getElem?_eq_getElem (by simpa using hlt4)]
            rfl
          rw [e4] at this
          exact this
        have HLL : Hid (NA + 1 ≤ maxLen ∧ (NA + 1) * 72 ≤ 140737488355328) := by refine ⟨?_, ?_⟩ <;> (try unfold maxLen) <;> omega
        rw [flatG_one1] at HLI
        obtain ⟨cs, hcs⟩ : ∃ cs, (fourN k).cells = cs := ⟨_, rfl⟩
        rw [hcs] at HXC HLI HXL HF4 HCX
        obtain ⟨FA, hFA⟩ : ∃ FA, flatG (t ++ u) = FA := ⟨_, rfl⟩
        have HCP2 : Hid _ := HCP.out
        rw [hFA] at HCX HCP2
        clear hr12 HRR HFC hcs
        go_upto_region 11 with (first | refine wpList_bld rfl 40 #[(0, .const (.int .i64 7))] rfl _ (by kernel_rfl) (.agg X1) HB1.out ?_ | refine wpList_bld rfl 40 #[(0, .const (.int .i64 8))] rfl _ (by kernel_rfl) (.agg X2) HB2.out ?_ | refine wpList_bld rfl 40 #[(0, .const (.int .i64 6)), (1, .const (.int .i64 3))] rfl _ (by kernel_rfl) (.agg X3) HB3.out ?_ | refine wpList_bld rfl 40 #[(0, .const (.int .i64 4)), (1, .const (.int .i64 1))] rfl _ (by kernel_rfl) (.agg X4) HB4.out ?_ | (refine wpList_lit (by rfl) 22 4 _ rfl _ (by kernel_rfl) (flatG [adN, orN, rlN, arN]) 40 HL4.out ?_; intro V4 wl C4 K4) | refine wpList_load_mid rfl 40 (.tmp 57) rfl V4 (k * 24) (by simp [Act.eval]) cs _ (HF4.out _ _ C4) Try.underlying40 rfl HXC.out.2.1 ?_ | refine wpList_store_row rfl 40 (.tmp 12) (.tmp 58) rfl wl.heap.size cs.toArray rfl rfl 40 _ (heap_alloc_new wl _) HXC.out.2.2.1 HXC.out.2.2.2.1 HXC.out.2.2.2.2 ?_)
        rw [World.setRow_alloc_new]
        have V5 := VAt.alloc wl 40 cs.toArray
        have K5 := World.grownBy_alloc wl (.cells cs.toArray 40) none
        have G6 := grown_trans (grown_trans HGR.out.1 K4) K5
        have J6 := grown_trans (grown_trans HGR.out.2 K4) K5
        generalize wl.alloc (.cells cs.toArray 40) = w6 at *
        obtain ⟨N, hN⟩ : ∃ N, wl.heap.size = N := ⟨_, rfl⟩
        rw [hN] at V5 ⊢
        have HNB : Hid (N < w6.drew.heap.size) := V5.lt
        have HS0 : Hid (VAt w6.drew N 40 cs.toArray) := V5.kept (grown_drewN w6 1 none)
        have HG6 : Hid (w.grownBy w6.drew none ∧ w5.grownBy w6.drew none) := ⟨grown_trans G6 (grown_drewN w6 1 none), grown_trans J6 (grown_drewN w6 1 none)⟩
        clear hN K4 K5 C4 V5 G6 J6 HGR
        refine wp_region_held_drew (S := fun W => VAt W N 40 cs.toArray) (by kernel_rfl) HS0.out (fun hHeld => ?_)
        refine wpAnyH_take (i := 0) (v := .slice aA NA cA) rfl (by kernel_rfl) (by kernel_rfl) (by kernel_rfl) (fun _ _ _ h => h) (Or.inl ⟨by rfl, fun W hW => ?_⟩) hHeld ?_
        · clear hW
          go_simp
        try simp only [Act.put, List.getElem_toArray, List.getElem_cons_zero, List.setIfInBounds_toArray, List.set_cons_zero, List.set_cons_succ]
        refine wpAnyH_take (i := 2) (v := .agg cs.toArray) rfl (by kernel_rfl) (by kernel_rfl) (by kernel_rfl) (fun _ _ _ h => h) (yieldsIf_load_row (by rfl) _ _ rfl N rfl 40 cs.toArray _ (fun W hW => hW) Try.underlying40 rfl HXC.out.2.2.1) hHeld ?_
        try simp only [Act.put, List.getElem_toArray, List.getElem_cons_zero, List.getElem_cons_succ, List.setIfInBounds_toArray, List.set_cons_zero, List.set_cons_succ]
        refine wpAnyH_ready (rs := [1, 3]) (by kernel_rfl) (by simp) (AllReadyH.cons rfl (fun K hK => ?_) (AllReadyH.cons rfl (fun K hK => ?_) AllReadyH.nil))
        · go_simp
          refine (HCP2.out _ HG6.out.2).mono ?_
          rintro e wc ⟨vc, rfl, OC, KC⟩
          have Gc := grown_trans HG6.out.1 KC
          have Jc := grown_trans HG6.out.2 KC
          go_wp2_with fail
          refine hK.out _ _ (hHeld.kept KC) (fun hHeld => ?_)
          clear hK K
          try simp only [Act.put, List.getElem_toArray, List.getElem_cons_zero, List.getElem_cons_succ, List.setIfInBounds_toArray, List.set_cons_zero, List.set_cons_succ]
          refine wpAnyH_ready (rs := [3]) (by kernel_rfl) (by simp) (AllReadyH.cons rfl (fun K hK => ?_) AllReadyH.nil)
          refine step_lit (by rfl) 22 1 _ (by rfl) _ (by kernel_rfl) cs 40 HLI.out ?_
          intro ad wx CL KL
          have OC := owns_keptNone OC KL
          have Gx := grown_trans Gc KL
          have Jx := grown_trans Jc KL
          have hbs : w6.drew.heap.size ≤ wx.heap.size := Nat.le_trans KC.size KL.size
          refine hK.out _ _ (hHeld.kept KL) (fun hHeld => ?_)
          clear hK K KL KC Gc Jc
          try simp only [Act.put, List.getElem_toArray, List.getElem_cons_zero, List.getElem_cons_succ, List.setIfInBounds_toArray, List.set_cons_zero, List.set_cons_succ]
          refine wpAnyH_ready (rs := [4]) (by kernel_rfl) (by simp) (AllReadyH.cons rfl (fun K hK => ?_) AllReadyH.nil)
          refine step_append_own (by rfl) (.tmp 61) (.tmp 63) 22 (by rfl) 40 i0 _ 24 72 Try.underlying22 HI.out.1 HI.out.2.1 HI.out.2.2.1 HI.out.2.2.2 rfl (by decide) w6.drew.heap.size vc NA FA (by rfl) OC ad 1 1 cs (by rfl) HXL.out.1 CL HXL.out.2 HLL.out.1 HLL.out.2 hbs ?_
          intro v8 w8' O8 K8 B8
          have G8 : w.grownBy w8' none := grown_trans_new Gx K8 (fun x hx => Nat.le_trans HG6.out.1.size (OC.lt x hx).1)
          have J8 : w5.grownBy w8' none := grown_trans_new Jx K8 (fun x hx => Nat.le_trans HG6.out.2.size (OC.lt x hx).1)
          obtain ⟨a8, c8, rfl, D8, -⟩ := cv_of_row O8
          refine hK.out _ _ (hHeld.grown K8 (fun e => by have h1 := (OC.lt N e).1; have h2 := HNB.out; omega)) (fun hHeld => ?_)
          clear hK K K8 B8 O8 OC CL Gx Jx
          try simp only [Act.put, List.getElem_toArray, List.getElem_cons_zero, List.getElem_cons_succ, List.setIfInBounds_toArray, List.set_cons_zero, List.set_cons_succ]
          refine wpAnyH_ready (rs := [5]) (by kernel_rfl) (by simp) (AllReadyH.cons rfl (fun K hK => ?_) AllReadyH.nil)
          go_simp
          refine (HCX.out _ _ _ D8).mono ?_
          rintro e w9 ⟨rfl, K9⟩
          have HG9 : Hid (w.grownBy w9 none ∧ w5.grownBy w9 none) := ⟨grown_trans G8 K9, grown_trans J8 K9⟩
          go_wp2_with fail
          refine hK.out _ _ (hHeld.kept K9) (fun hHeld => ?_)
          clear hK K K9 G8 J8 D8
          try simp only [Act.put, List.getElem_toArray, List.getElem_cons_zero, List.getElem_cons_succ, List.setIfInBounds_toArray, List.set_cons_zero, List.set_cons_succ]
          refine wpAnyH_take (i := 6) (v := .tuple #[.int .i64 (r1 : Int), .int .i64 r2]) rfl (by kernel_rfl) (by kernel_rfl) (by kernel_rfl) (fun _ _ _ h => h) (Or.inl ⟨by rfl, fun W hW => ?_⟩) hHeld ?_
          · clear hW
            go_simp
          try simp only [Act.put, List.getElem_toArray, List.getElem_cons_zero, List.getElem_cons_succ, List.setIfInBounds_toArray, List.set_cons_zero, List.set_cons_succ]
          refine wpAnyH_take (i := 7) (v := .int .i64 (r1 : Int)) rfl (by kernel_rfl) (by kernel_rfl) (by kernel_rfl) (fun _ _ _ h => h) (Or.inl ⟨by rfl, fun W hW => ?_⟩) hHeld ?_
          · clear hW
            go_simp
          try simp only [Act.put, List.getElem_toArray, List.getElem_cons_zero, List.getElem_cons_succ, List.setIfInBounds_toArray, List.set_cons_zero, List.set_cons_succ]
          refine wpAnyH_take (i := 8) (v := .int .i64 r2) rfl (by kernel_rfl) (by kernel_rfl) (by kernel_rfl) (fun _ _ _ h => h) (Or.inl ⟨by rfl, fun W hW => ?_⟩) hHeld ?_
          · clear hW
            go_simp
          try simp only [Act.put, List.getElem_toArray, List.getElem_cons_zero, List.getElem_cons_succ, List.setIfInBounds_toArray, List.set_cons_zero, List.set_cons_succ]
          refine wpAnyH_take (i := 9) (v := .int .i64 (r1 : Int)) rfl (by kernel_rfl) (by kernel_rfl) (by kernel_rfl) (fun _ _ _ h => h) (Or.inl ⟨by rfl, fun W hW => ?_⟩) hHeld ?_
          · clear hW
            go_simp
          try simp only [Act.put, List.getElem_toArray, List.getElem_cons_zero, List.getElem_cons_succ, List.setIfInBounds_toArray, List.set_cons_zero, List.set_cons_succ]
          refine wpAnyH_take (i := 10) (v := .int .i64 r2) rfl (by kernel_rfl) (by kernel_rfl) (by kernel_rfl) (fun _ _ _ h => h) (Or.inl ⟨by rfl, fun W hW => ?_⟩) hHeld ?_
          · clear hW
            go_simp
          try simp only [Act.put, List.getElem_toArray, List.getElem_cons_zero, List.getElem_cons_succ, List.setIfInBounds_toArray, List.set_cons_zero, List.set_cons_succ]
          refine wpAnyH_done (by kernel_rfl) ?_ _
          clear hHeld
          clear HCX HCP2 HLI HXL HLL HXC HF4 HNB HS0 HG6
          rcases HCASE.out with ⟨q1, q2, q3, q4, -⟩ | ⟨q1, q2, q3, q4, -⟩ | ⟨q1, q2, q3, q4⟩
          all_goals
            clear HCASE
            go_wp2
            go_roundw
            case rel => exact ⟨k + 1, by omega, by go_num, HG9⟩
            case measure => simp [intOf]; omega
        · refine step_lit (by rfl) 22 1 _ (by rfl) _ (by kernel_rfl) cs 40 HLI.out ?_
          intro ad wl2 CL KL
          have Gc := grown_trans HG6.out.1 KL
          have Jc := grown_trans HG6.out.2 KL
          refine hK.out _ _ (hHeld.kept KL) (fun hHeld => ?_)
          clear hK K
          try simp only [Act.put, List.getElem_toArray, List.getElem_cons_zero, List.getElem_cons_succ, List.setIfInBounds_toArray, List.set_cons_zero, List.set_cons_succ]
          refine wpAnyH_ready (rs := [1]) (by kernel_rfl) (by simp) (AllReadyH.cons rfl (fun K hK => ?_) AllReadyH.nil)
          go_simp
          refine (HCP2.out _ Jc).mono ?_
          rintro e wx ⟨vc, rfl, OC, KC⟩
          have CL := CL.keptNone KC
          have Gx := grown_trans Gc KC
          have Jx := grown_trans Jc KC
          have OC := owns_mono OC KL.size
          have hbs : w6.drew.heap.size ≤ wx.heap.size := Nat.le_trans KL.size KC.size
          go_wp2_with fail
          refine hK.out _ _ (hHeld.kept KC) (fun hHeld => ?_)
          clear hK K KC KL Gc Jc
          try simp only [Act.put, List.getElem_toArray, List.getElem_cons_zero, List.getElem_cons_succ, List.setIfInBounds_toArray, List.set_cons_zero, List.set_cons_succ]
          refine wpAnyH_ready (rs := [4]) (by kernel_rfl) (by simp) (AllReadyH.cons rfl (fun K hK => ?_) AllReadyH.nil)
          refine step_append_own (by rfl) (.tmp 61) (.tmp 63) 22 (by rfl) 40 i0 _ 24 72 Try.underlying22 HI.out.1 HI.out.2.1 HI.out.2.2.1 HI.out.2.2.2 rfl (by decide) w6.drew.heap.size vc NA FA (by rfl) OC ad 1 1 cs (by rfl) HXL.out.1 CL HXL.out.2 HLL.out.1 HLL.out.2 hbs ?_
          intro v8 w8' O8 K8 B8
          have G8 : w.grownBy w8' none := grown_trans_new Gx K8 (fun x hx => Nat.le_trans HG6.out.1.size (OC.lt x hx).1)
          have J8 : w5.grownBy w8' none := grown_trans_new Jx K8 (fun x hx => Nat.le_trans HG6.out.2.size (OC.lt x hx).1)
          obtain ⟨a8, c8, rfl, D8, -⟩ := cv_of_row O8
          refine hK.out _ _ (hHeld.grown K8 (fun e => by have h1 := (OC.lt N e).1; have h2 := HNB.out; omega)) (fun hHeld => ?_)
          clear hK K K8 B8 O8 OC CL Gx Jx
          try simp only [Act.put, List.getElem_toArray, List.getElem_cons_zero, List.getElem_cons_succ, List.setIfInBounds_toArray, List.set_cons_zero, List.set_cons_succ]
          refine wpAnyH_ready (rs := [5]) (by kernel_rfl) (by simp) (AllReadyH.cons rfl (fun K hK => ?_) AllReadyH.nil)
          go_simp
          refine (HCX.out _ _ _ D8).mono ?_
          rintro e w9 ⟨rfl, K9⟩
          have HG9 : Hid (w.grownBy w9 none ∧ w5.grownBy w9 none) := ⟨grown_trans G8 K9, grown_trans J8 K9⟩
          go_wp2_with fail
          refine hK.out _ _ (hHeld.kept K9) (fun hHeld => ?_)
          clear hK K K9 G8 J8 D8
          try simp only [Act.put, List.getElem_toArray, List.getElem_cons_zero, List.getElem_cons_succ, List.setIfInBounds_toArray, List.set_cons_zero, List.set_cons_succ]
          refine wpAnyH_take (i := 6) (v := .tuple #[.int .i64 (r1 : Int), .int .i64 r2]) rfl (by kernel_rfl) (by kernel_rfl) (by kernel_rfl) (fun _ _ _ h => h) (Or.inl ⟨by rfl, fun W hW => ?_⟩) hHeld ?_
          · clear hW
            go_simp
          try simp only [Act.put, List.getElem_toArray, List.getElem_cons_zero, List.getElem_cons_succ, List.setIfInBounds_toArray, List.set_cons_zero, List.set_cons_succ]
          refine wpAnyH_take (i := 7) (v := .int .i64 (r1 : Int)) rfl (by kernel_rfl) (by kernel_rfl) (by kernel_rfl) (fun _ _ _ h => h) (Or.inl ⟨by rfl, fun W hW => ?_⟩) hHeld ?_
          · clear hW
            go_simp
          try simp only [Act.put, List.getElem_toArray, List.getElem_cons_zero, List.getElem_cons_succ, List.setIfInBounds_toArray, List.set_cons_zero, List.set_cons_succ]
          refine wpAnyH_take (i := 8) (v := .int .i64 r2) rfl (by kernel_rfl) (by kernel_rfl) (by kernel_rfl) (fun _ _ _ h => h) (Or.inl ⟨by rfl, fun W hW => ?_⟩) hHeld ?_
          · clear hW
            go_simp
          try simp only [Act.put, List.getElem_toArray, List.getElem_cons_zero, List.getElem_cons_succ, List.setIfInBounds_toArray, List.set_cons_zero, List.set_cons_succ]
          refine wpAnyH_take (i := 9) (v := .int .i64 (r1 : Int)) rfl (by kernel_rfl) (by kernel_rfl) (by kernel_rfl) (fun _ _ _ h => h) (Or.inl ⟨by rfl, fun W hW => ?_⟩) hHeld ?_
          · clear hW
            go_simp
          try simp only [Act.put, List.getElem_toArray, List.getElem_cons_zero, List.getElem_cons_succ, List.setIfInBounds_toArray, List.set_cons_zero, List.set_cons_succ]
          refine wpAnyH_take (i := 10) (v := .int .i64 r2) rfl (by kernel_rfl) (by kernel_rfl) (by kernel_rfl) (fun _ _ _ h => h) (Or.inl ⟨by rfl, fun W hW => ?_⟩) hHeld ?_
          · clear hW
            go_simp
          try simp only [Act.put, List.getElem_toArray, List.getElem_cons_zero, List.getElem_cons_succ, List.setIfInBounds_toArray, List.set_cons_zero, List.set_cons_succ]
          refine wpAnyH_done (by kernel_rfl) ?_ _
          clear hHeld
          clear HCX HCP2 HLI HXL HLL HXC HF4 HNB HS0 HG6
          rcases HCASE.out with ⟨q1, q2, q3, q4, -⟩ | ⟨q1, q2, q3, q4, -⟩ | ⟨q1, q2, q3, q4⟩
          all_goals
            clear HCASE
            go_wp2
            go_roundw
            case rel => exact ⟨k + 1, by omega, by go_num, HG9⟩
            case measure => simp [intOf]; omega
      · have hl : ¬ (k : Int) < 4 := by omega
        have G0 := HGR.out.1
        have CA := gcopy_any a ca t wr (HA.out.keptNone G0) HHA0.out (by omega)
        have HG0 : Hid (w.grownBy wr none) := G0
        have HLT : Hid (t.length + 1 ≤ maxLen ∧ (t.length + 1) * 72 ≤ 140737488355328) := by refine ⟨?_, ?_⟩ <;> (try unfold maxLen) <;> omega
        have HCM : Hid (∀ (a1 : Option Addr) (c1 : Nat) (W : World), CV W a1 (flatG t ++ flatG [miN]) → Calls Try.prog 11 #[.slice a1 (t.length + 1) c1] W fun e' w' => e' = .returned (.tuple #[.int .i64 (t.length : Int), .int .i64 122]) ∧ W.grownBy w' none) := fun a1 c1 W CW => by
          have := check12_any a1 c1 (t ++ [miN]) W (by rw [flatG_append]; exact CW) (by rw [List.length_append, List.length_singleton]; omega) (fun x hx => by
            rcases List.mem_append.1 hx with hx | hx
            · exact HN.out x hx
            · rw [List.mem_singleton.1 hx]; exact Nat.zero_le _)
          rw [checkR, minus_check HFT.out, List.length_append] at this
          exact this
        obtain ⟨n1, n2, hn12⟩ : ∃ (n1 : Nat) (n2 : Int), checkG (t ++ [noN]) = (n1, n2) := ⟨_, _, rfl⟩
        have HNC := not_check HFT.out
        rw [hn12] at HNC
        have HNC' : Hid (n2 = if weightG t < 3000 then 0 else 126) := HNC
        have HCN : Hid (∀ (a1 : Option Addr) (c1 : Nat) (W : World), CV W a1 (flatG t ++ flatG [noN]) → Calls Try.prog 11 #[.slice a1 (t.length + 1) c1] W fun e' w' => e' = .returned (.tuple #[.int .i64 (n1 : Int), .int .i64 n2]) ∧ W.grownBy w' none) := fun a1 c1 W CW => by
          have := check12_any a1 c1 (t ++ [noN]) W (by rw [flatG_append]; exact CW) (by rw [List.length_append, List.length_singleton]; omega) (fun x hx => by
            rcases List.mem_append.1 hx with hx | hx
            · exact HN.out x hx
            · rw [List.mem_singleton.1 hx]; exact Nat.zero_le _)
          rw [checkR, hn12, List.length_append] at this
          exact this
        clear hn12 HNC hlt4 HCP HGR
        go_wp2_with fail
        refine CA.mono ?_
        rintro ea wa ⟨va, rfl, Oa, Ka⟩
        clear CA
        go_wp2_with (first | refine wpList_bld rfl 40 #[(0, .const (.int .i64 5))] rfl _ (by kernel_rfl) (.agg X5) HB5.out ?_ | (refine wpList_lit (by rfl) 22 1 _ rfl _ (by kernel_rfl) (flatG [miN]) 40 HLM.out ?_; intro Vb wb Cb Kb) | (at_builtin; refine wpList_append_cv rfl (.tmp 104) (.tmp 106) 22 rfl 40 i0 _ 24 72 Try.underlying22 HI.out.1 HI.out.2.1 HI.out.2.2.1 HI.out.2.2.2 rfl (by decide) wr.heap.size _ t.length (flatG t) rfl (owns_keptNone Oa Kb) (some ⟨Vb, 0, none⟩) 1 1 (flatG [miN]) rfl rfl (by simp) Cb (flatG_one _) HLT.out.1 HLT.out.2 (Nat.le_trans Ka.size Kb.size) ?_; intro vc wc Oc Kc; have Gc : w.grownBy wc none := grown_trans_new (grown_trans (grown_trans HG0.out Ka) Kb) Kc (fun x hx => Nat.le_trans HG0.out.size (Oa.lt x hx).1); obtain ⟨ac, cc, rfl, Dc, -⟩ := cv_of_row Oc; clear Oa Ka Cb Kb Oc Kc))
        refine (HCM.out _ _ _ Dc).mono ?_
        rintro ed wd ⟨rfl, Kd⟩
        have Gd := grown_trans Gc Kd
        have HGd : Hid (w.grownBy wd none) := Gd
        have CA := gcopy_any a ca t wd (HA.out.keptNone Gd) HHA0.out (by omega)
        clear Dc Kd Gc HCM Gd
        go_wp2_with fail
        refine CA.mono ?_
        rintro ee we ⟨ve, rfl, Oe, Ke⟩
        clear CA
        go_wp2_with (first | refine wpList_bld rfl 40 #[(0, .const (.int .i64 9))] rfl _ (by kernel_rfl) (.agg X6) HB6.out ?_ | (refine wpList_lit (by rfl) 22 1 _ rfl _ (by kernel_rfl) (flatG [noN]) 40 HLN.out ?_; intro Vf wf Cf Kf) | (at_builtin; refine wpList_append_cv rfl (.tmp 113) (.tmp 115) 22 rfl 40 i0 _ 24 72 Try.underlying22 HI.out.1 HI.out.2.1 HI.out.2.2.1 HI.out.2.2.2 rfl (by decide) wd.heap.size _ t.length (flatG t) rfl (owns_keptNone Oe Kf) (some ⟨Vf, 0, none⟩) 1 1 (flatG [noN]) rfl rfl (by simp) Cf (flatG_one _) HLT.out.1 HLT.out.2 (Nat.le_trans Ke.size Kf.size) ?_; intro vg wg Og Kg; have Gg : w.grownBy wg none := grown_trans_new (grown_trans (grown_trans HGd.out Ke) Kf) Kg (fun x hx => Nat.le_trans HGd.out.size (Oe.lt x hx).1); obtain ⟨ag, cg, rfl, Dg, -⟩ := cv_of_row Og; clear Oe Ke Cf Kf Og Kg))
        refine (HCN.out _ _ _ Dg).mono ?_
        rintro eh wh ⟨rfl, Kh⟩
        have Gh := grown_trans Gg Kh
        have HGh : Hid (w.grownBy wh none) := Gh
        have CA := gcopy_any a ca t wh (HA.out.keptNone Gh) HHA0.out (by omega)
        clear Dg Kh Gg HCN Gh
        go_wp2_with fail
        refine CA.mono ?_
        rintro ei wi ⟨vi, rfl, Oi, Ki⟩
        obtain ⟨ai, ci, rfl, Di, -⟩ := cv_of_row Oi
        have CW := weight_any ai ci t wi Di (by omega)
        have Gi := grown_trans HGh.out Ki
        clear CA Oi Di Ki
        go_wp2_with fail
        refine CW.mono ?_
        rintro ej wj ⟨rfl, Kj⟩
        have Gj := grown_trans Gi Kj
        clear CW Kj Gi
        have eqt : ((t.length : Int) == (t.length : Int)) = true := by simp
        by_cases hw3 : weightG t < 3000
        · have h1 : decide ((weightG t : Int) < 3000) = true := decide_eq_true (by omega)
          have h2 : (n2 == 0) = true := by rw [HNC'.out, if_pos hw3]; rfl
          clear hw3 HNC'
          go_wp2_with fail
          refine (awake12_any _).mono ?_
          rintro e9 w9 ⟨rfl, K9⟩
          go_wp2
          go_ret
          exact ⟨rfl, grown_trans Gj K9⟩
        · have h1 : decide ((weightG t : Int) < 3000) = false := decide_eq_false (by omega)
          have h2 : (n2 == 0) = false := by rw [HNC'.out, if_neg hw3]; rfl
          clear hw3 HNC'
          go_wp2_with fail
          refine (awake12_any _).mono ?_
          rintro e9 w9 ⟨rfl, K9⟩
          go_wp2
          go_ret
          exact ⟨rfl, grown_trans Gj K9⟩

set_option maxRecDepth 100000 in
theorem lifted (os : Os) (started : os.Started) (H : Type) (enc : TypeId × Value → H) :
    ReturnsInHanded {} Try.checked os 7 .any (Rows.typesJoinsSpec.pre6 enc Try.prog Try.f7 Rows.typesJoinsRow.domain false) (Rows.typesJoinsSpec.post enc Try.prog Try.f7 false true false false) := by
  refine returnsInHanded_of_change_sized (C := Try.checked) own started (by kernel_rfl) Try.func7
    (ChangeSpec.witness6 (enc := enc) (C := Try.checked) false ⟨#[], #[.slice none 0 0, .slice none 0 0], []⟩ 8 (by kernel_rfl) (by kernel_rfl) (by kernel_rfl) (by kernel_rfl)) ?_
  intro W base args ds gs before hval0 hW hcnd hsz0 _
  have hsz : (DataW.weightsEach Try.prog (Try.f7.params.toList ++ Rows.typesJoinsSpec.plain.varTypes Try.prog) (ds ++ gs)).all (· ≤ reachBytes) = true := hsz0
  have hval : ∀ (j : Nat) t v, Try.f7.params[j]? = some t → args[j]? = some v → Value.okWide Try.prog W .any base t v := hval0
  have hW' := hW
  obtain ⟨p, q, hA0, hV, rfl, hfz, hnd⟩ := hW
  have hA : DataW.TrodAll enc Try.prog W 0 (fun _ => true) true Try.f7.params.toList args.toList ds p := hA0
  rw [Try.params7] at hA hval hsz
  obtain ⟨v0, vs0, d0, ds0, p0, q0, hargs, rfl, rfl, h0, r0⟩ := trodAll_cons hA
  obtain ⟨v1, vs1, d1, ds1, p1, q1, rfl, rfl, rfl, h1, r1⟩ := trodAll_cons r0
  obtain ⟨rfl, rfl, rfl⟩ := trodAll_nil r1
  obtain rfl : args = #[v0, v1] := by cases args; simp_all
  obtain ⟨rfl, rfl⟩ := trodVars_none hV
  obtain ⟨a0, len0, cap0, rfl⟩ := okWide_slice Try.underlying22 (hval 0 22 v0 rfl rfl)
  have k0 := h0
  have lt0 : ∀ x ∈ p0, x.block < W.heap.size := by obtain ⟨m, hm⟩ := k0; exact DataW.trod_lt m _ _ _ hm
  obtain ⟨xs0, rfl, hcells0, hnil0, hcp0, hok0, hdat0⟩ := open_nodes h0
  obtain ⟨a1, len1, cap1, rfl⟩ := okWide_slice Try.underlying22 (hval 1 22 v1 rfl rfl)
  have k1 := h1
  have lt1 : ∀ x ∈ p1, x.block < W.heap.size := by obtain ⟨m, hm⟩ := k1; exact DataW.trod_lt m _ _ _ hm
  obtain ⟨xs1, rfl, hcells1, hnil1, hcp1, hok1, hdat1⟩ := open_nodes h1
  have hlen0 : xs0.length * 72 ≤ 140737488351232 := by
    rcases hdat0 with ⟨_, rfl⟩ | ⟨elems, spare, rfl, hle⟩
    · simp
    · have := sized_slice hsz (j := 0) (t := 22) (e := 40) rfl rfl Try.underlying22
      rw [bytes40] at this
      unfold reachBytes at this
      omega
  have hlen1 : xs1.length * 72 ≤ 140737488351232 := by
    rcases hdat1 with ⟨_, rfl⟩ | ⟨elems, spare, rfl, hle⟩
    · simp
    · have := sized_slice hsz (j := 1) (t := 22) (e := 40) rfl rfl Try.underlying22
      rw [bytes40] at this
      unfold reachBytes at this
      omega
  clear hA0 hval0
  refine (walk a0 cap0 xs0 a1 cap1 xs1 W hcells0 hnil0 hcp0.1 hcp0.2 (by omega) hok0 hcells1 hnil1 hcp1.1 hcp1.2 (by omega) hok1).mono fun e W' ⟨he, hg⟩ => ?_
  subst he
  have bel : Below W.heap.size W W' := (Below.refl _ _).grown hg (Nat.le_refl _) (by simp)
  exact ⟨_, rfl, _, _, _, [], _, [], hW', trodAll_mk1 (shut_bool Try.underlying4 _), (trodAll_cons_mk (Below.trod laidOut (by kernel_rfl) (of_decide_eq_true (by kernel_rfl)) k0 bel lt0) (trodAll_cons_mk (Below.trod laidOut (by kernel_rfl) (of_decide_eq_true (by kernel_rfl)) k1 bel lt1) trodAll_mk0)), rfl, bel.frame _, fun h => by cases h⟩

theorem over : Rows.TypesJoinsSaid :=
  OpenClaim.holds_of_wide 7 Try.f7 rfl rfl rfl rfl rfl rfl rfl ⟨rfl, rfl, rfl, rfl, rfl⟩ rfl rfl rfl rfl rfl (by kernel_rfl) Try.func7 (by kernel_rfl)
    (of_decide_eq_true (by kernel_rfl)) (by unfold Func.isWrapper; first | (rw [if_pos (by decide +kernel)]; kernel_rfl) | (rw [if_neg (by decide +kernel)]; exact ⟨rfl, rfl⟩))
    (fun os started H enc _ => lifted os started H enc)

end typesJoins

theorem typesJoins_holds : Rows.TypesJoinsSaid := typesJoins.over
#print axioms typesJoins_holds

end Go.Proofs.Ytdajpnlpcdnckaa
