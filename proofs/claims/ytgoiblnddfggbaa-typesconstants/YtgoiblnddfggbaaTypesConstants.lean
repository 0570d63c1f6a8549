/-
  For every list of nodes (of such size as the form itself says of it) riddlelaw12.TypesConstants returns true and leaves what was there as it was: no condition of ours.
-/
import Derived.Test.YtgoiblnddfggbaaLotP43
import Derived.Test.YtgoiblnddfggbaaAwake12
namespace Go.Proofs.Ytgoiblnddfggbaa
open Go.ChangeShapes Go.WideShapes Go.ChangeAt Go.RowKit
set_option maxRecDepth 100000
namespace typesConstants

theorem constR_eq (o : Option Nat) : ∃ (v : Nat) (b : Bool), constR o = .tuple #[.int .u32 (v : Int), .bool b] := by
  cases o with
  | none => exact ⟨0, false, rfl⟩
  | some v => exact ⟨v, true, rfl⟩

set_option maxRecDepth 100000 in
set_option maxHeartbeats 8000000 in
theorem walk_ad (ad : Addr) (ca : Nat) (t : List Ng) (w : World) (hA : CV w (some ad) (flatG t)) (hac : t.length ≤ ca) (hax : ca ≤ maxLen) (hal : t.length * 72 ≤ 140737488351232) (hao : ∀ x ∈ t, x.ok) :
    Calls Try.prog 4 #[.slice (some ad) t.length ca] w fun e w' => e = .returned (.bool true) ∧ w.grownBy w' none := by
  have HA : Hid (∀ m W, w.grownBy W none → CV W (some ad) (flatG (t.take m))) := fun m W GW => cv_takeG (hA.keptNone GW) m
  have HN : Hid (∀ m, ∀ x ∈ t.take m, x.n ≤ 4294967295) := fun m x hx => (hao x (List.mem_of_mem_take hx)).1
  have hax2 : ca ≤ 9223372036854775807 := by unfold maxLen at hax; omega
  have w20 : IntKind.i64.wrap ((t.length : Int) - 20) = (t.length : Int) - 20 := by rw [IntKind.wrap_i64]; omega
  clear hA hao hax
  go_enter Try.func4, Try.ntmps4
  go_wp2
  go_loopw [3] (fun i wr => ∃ j : Nat, j ≤ t.length + 1 ∧ j ≤ 21 ∧ i = .int .i64 ((t.length : Int) - (j : Int)) ∧ Hid (w.grownBy wr none)) (fun i _ => ((intOf i) + 1).toNat)
  case atStart => exact ⟨0, Nat.zero_le _, Nat.zero_le _, by simp, World.grownBy.refl _ _⟩
  case round =>
    obtain ⟨j, hj, hj2, rfl, HG⟩ := hrel
    by_cases hlt : j ≤ t.length ∧ j ≤ 20
    · obtain ⟨m, hm⟩ : ∃ m, t.length = m + j := ⟨t.length - j, by omega⟩
      have hmj : (t.length : Int) - (j : Int) = (m : Int) := by omega
      rw [hmj]
      have t1 : decide ((0 : Int) ≤ (m : Int)) = true := decide_eq_true (by omega)
      have t2 : decide ((t.length : Int) - 20 ≤ (m : Int)) = true := decide_eq_true (by omega)
      have w1 : IntKind.i64.wrap ((m : Int) - 1) = (m : Int) - 1 := by rw [IntKind.wrap_i64]; omega
      have hmc : (m : Int) ≤ (ca : Int) := by omega
      have hmc2 : ¬ ca < m := by omega
      have HL : Hid ((t.take m).length = m) := by show List.length _ = m; rw [List.length_take]; omega
      have hm72 : m * 72 ≤ 140737488351232 := by omega
      have HNJ : Hid ((m : Int) - 1 = (t.length : Int) - ((j + 1 : Nat) : Int) ∧ j + 1 ≤ t.length + 1 ∧ j + 1 ≤ 21 ∧ ((m : Int) - 1 + 1).toNat < ((m : Int) + 1).toNat) := by refine ⟨?_, ?_, ?_, ?_⟩ <;> omega
      obtain ⟨v, b, hvb⟩ := constR_eq (constG (t.take m))
      have CR := refconst_any (some ad) ca (t.take m) wr (HA.out m _ HG.out) (by rw [HL.out]; omega) (HN.out m)
      rw [hvb, HL.out] at CR
      have HCC : Hid (∀ (ao : Option Addr) (cap : Nat) (W : World), CV W ao (flatG (t.take m)) → Calls Try.prog 12 #[.slice ao m cap] W fun e' w' => e' = .returned (.tuple #[.int .u32 (v : Int), .bool b]) ∧ W.grownBy w' none) := fun ao cap W C => by
        have := const12_any ao cap (t.take m) W C (by rw [HL.out]; omega) (HN.out m)
        rw [hvb, HL.out] at this
        exact this
      have HWW : Hid (∀ (ao : Option Addr) (cap : Nat) (W : World), CV W ao (flatG (t.take m)) → Calls Try.prog 13 #[.slice ao m cap] W fun e' w' => e' = .returned (.int .i64 (weightG (t.take m) : Int)) ∧ W.grownBy w' none) := fun ao cap W C => by
        have := weight_any ao cap (t.take m) W C (by rw [HL.out]; omega)
        rw [HL.out] at this
        exact this
      have HRW : Hid (∀ (ao : Option Addr) (cap : Nat) (W : World), CV W ao (flatG (t.take m)) → Calls Try.prog 14 #[.slice ao m cap] W fun e' w' => e' = .returned (.int .i64 (weightG (t.take m) : Int)) ∧ W.grownBy w' none) := fun ao cap W C => by
        have := refweight_any ao cap (t.take m) W C (by rw [HL.out]; omega)
        rw [HL.out] at this
        exact this
      generalize weightG (t.take m) = U at *
      have HAM : Hid (∀ W, w.grownBy W none → CV W (some ad) (flatG (t.take m))) := HA.out m
      obtain ⟨q, hq⟩ : ∃ q, t.take m = q := ⟨_, rfl⟩
      rw [hq] at HL HCC HWW HRW HAM
      clear hvb hq hlt hmj hm
      go_wp2_with fail
      refine CR.mono ?_
      rintro e1 w1' ⟨rfl, K1⟩
      have G1 := grown_trans HG.out K1
      have CL := glend_any (some ad) ca q w1' (HAM.out _ G1) (fun e => by cases e) (by rw [HL.out]; omega)
      rw [HL.out] at CL
      clear CR K1
      go_wp2_with fail
      refine CL.mono ?_
      rintro e2 w2 ⟨v2, rfl, ⟨g, cap, rfl, hc1, hc2, hg1, hg2, O2⟩, K2⟩
      have CP := HCC.out (some ⟨g, 0, none⟩) cap w2 (gcv_front O2).1
      rw [HL.out]
      clear CL
      go_wp2_with fail
      refine CP.mono ?_
      rintro e3 w3 ⟨rfl, K3⟩
      have O3 := owns_keptNone O2 K3
      have CP2 := HWW.out (some ⟨g, 0, none⟩) cap w3 (gcv_front O3).1
      clear CP O2
      go_wp2_with fail
      refine CP2.mono ?_
      rintro e4 w4 ⟨rfl, K4⟩
      have G4 := grown_trans G1 (grown_trans K2 (grown_trans K3 K4))
      have CK := gkept_any g cap (some ad) ca q w4 (owns_mono (owns_keptNone O3 K4) (Nat.zero_le _)) (HAM.out _ G4) (by rw [HL.out]; omega)
      rw [HL.out] at CK
      have HGW : Hid (w.heap.size ≤ g) := Nat.le_trans G1.size hg1
      clear CP2 O3 hc1 hc2 hg1 hg2 K2 K3 K4 G1
      go_wp2_with fail
      refine CK.mono ?_
      rintro e5 w5 ⟨rfl, K5⟩
      have G5 : w.grownBy w5 none := grown_trans_new G4 K5 (fun x hx => by cases hx; exact HGW.out)
      have CRW := HRW.out (some ad) ca w5 (HAM.out _ G5)
      have n1 : ((v : Int) != (v : Int)) = false := by simp
      have n2 : (b != b) = false := by simp
      have n3 : ((U : Int) != (U : Int)) = false := by simp
      clear CK K5 G4
      go_wp2_with fail
      refine CRW.mono ?_
      rintro e6 w6 ⟨rfl, K6⟩
      have HF : Hid (w.grownBy w6 none) := grown_trans G5 K6
      clear CRW K6 G5 HG
      go_wp2
      go_roundw
      case rel => exact ⟨j + 1, HNJ.out.2.1, HNJ.out.2.2.1, by rw [HNJ.out.1], HF⟩
      case measure => exact HNJ.out.2.2.2
    · have GR := HG.out
      by_cases hj1 : j ≤ t.length
      · have t1 : decide ((0 : Int) ≤ (t.length : Int) - (j : Int)) = true := decide_eq_true (by omega)
        have t2 : decide ((t.length : Int) - 20 ≤ (t.length : Int) - (j : Int)) = false := decide_eq_false (by omega)
        clear hj1 hlt HG
        generalize (t.length : Int) - (j : Int) = z at *
        go_wp2_with fail
        refine (awake12_any _).mono ?_
        rintro e14 w14 ⟨rfl, K14⟩
        go_wp2
        go_ret
        exact ⟨rfl, grown_trans GR K14⟩
      · have t1 : decide ((0 : Int) ≤ (t.length : Int) - (j : Int)) = false := decide_eq_false (by omega)
        clear hj1 hlt HG
        generalize (t.length : Int) - (j : Int) = z at *
        go_wp2_with fail
        refine (awake12_any _).mono ?_
        rintro e14 w14 ⟨rfl, K14⟩
        go_wp2
        go_ret
        exact ⟨rfl, grown_trans GR K14⟩

set_option maxRecDepth 100000 in
set_option maxHeartbeats 8000000 in
theorem walk_nil (w : World) : Calls Try.prog 4 #[.slice none 0 0] w fun e w' => e = .returned (.bool true) ∧ w.grownBy w' none := by
  have HA : Hid (∀ W : World, CV W none (flatG [])) := fun W => ⟨fun _ => rfl, fun ad had => by cases had⟩
  have HNL : ∀ x ∈ ([] : List Ng), x.n ≤ 4294967295 := fun x hx => by cases hx
  have w20 : IntKind.i64.wrap (0 - 20) = -20 := by rw [IntKind.wrap_i64]; rfl
  have w21 : IntKind.i64.wrap (-20) = -20 := by rw [IntKind.wrap_i64]; rfl
  have w1 : IntKind.i64.wrap (0 - 1) = -1 := by rw [IntKind.wrap_i64]; rfl
  have w2 : IntKind.i64.wrap (-1) = -1 := by rw [IntKind.wrap_i64]; rfl
  obtain ⟨v, b, hvb⟩ := constR_eq (constG [])
  have HCR : Hid (∀ W : World, Calls Try.prog 11 #[.slice none 0 0] W fun e' w' => e' = .returned (.tuple #[.int .u32 (v : Int), .bool b]) ∧ W.grownBy w' none) := fun W => by
    have := refconst_any none 0 [] W (HA.out W) (by simp) HNL
    rw [hvb] at this
    exact this
  have HCC : Hid (∀ (ao : Option Addr) (cap : Nat) (W : World), CV W ao (flatG []) → Calls Try.prog 12 #[.slice ao 0 cap] W fun e' w' => e' = .returned (.tuple #[.int .u32 (v : Int), .bool b]) ∧ W.grownBy w' none) := fun ao cap W C => by
    have := const12_any ao cap [] W C (by simp) HNL
    rw [hvb] at this
    exact this
  have HWW : Hid (∀ (ao : Option Addr) (cap : Nat) (W : World), CV W ao (flatG []) → Calls Try.prog 13 #[.slice ao 0 cap] W fun e' w' => e' = .returned (.int .i64 0) ∧ W.grownBy w' none) := fun ao cap W C => weight_any ao cap [] W C (by simp)
  have HRW : Hid (∀ W : World, Calls Try.prog 14 #[.slice none 0 0] W fun e' w' => e' = .returned (.int .i64 0) ∧ W.grownBy w' none) := fun W => refweight_any none 0 [] W (HA.out W) (by simp)
  clear hvb HNL
  go_enter Try.func4, Try.ntmps4
  go_wp2
  go_loopw [3] (fun i wr => ∃ j : Nat, j ≤ 1 ∧ i = .int .i64 (-(j : Int)) ∧ Hid (w.grownBy wr none)) (fun i _ => ((intOf i) + 1).toNat)
  case atStart => exact ⟨0, Nat.zero_le _, by simp, World.grownBy.refl _ _⟩
  case round =>
    obtain ⟨j, hj, rfl, HG⟩ := hrel
    have hj01 : j = 0 ∨ j = 1 := by omega
    rcases hj01 with rfl | rfl
    · rw [show (-((0 : Nat) : Int)) = 0 from rfl]
      go_wp2_with fail
      refine (HCR.out _).mono ?_
      rintro e1 w1' ⟨rfl, K1⟩
      have G1 := grown_trans HG.out K1
      have CL := glend_any none 0 [] w1' (HA.out _) (fun _ => rfl) (by simp)
      clear K1
      go_wp2_with fail
      refine CL.mono ?_
      rintro e2 w2 ⟨v2, rfl, ⟨g, cap, rfl, hc1, hc2, hg1, hg2, O2⟩, K2⟩
      have CP := HCC.out (some ⟨g, 0, none⟩) cap w2 (gcv_front O2).1
      rw [show ([] : List Ng).length = 0 from rfl]
      clear CL
      go_wp2_with fail
      refine CP.mono ?_
      rintro e3 w3 ⟨rfl, K3⟩
      have O3 := owns_keptNone O2 K3
      have CP2 := HWW.out (some ⟨g, 0, none⟩) cap w3 (gcv_front O3).1
      clear CP O2
      go_wp2_with fail
      refine CP2.mono ?_
      rintro e4 w4 ⟨rfl, K4⟩
      have G4 := grown_trans G1 (grown_trans K2 (grown_trans K3 K4))
      have CK : Calls Try.prog 9 #[.slice (some ⟨g, 0, none⟩) 0 cap, .slice none 0 0] w4 _ := gkept_any g cap none 0 [] w4 (owns_mono (owns_keptNone O3 K4) (Nat.zero_le _)) (HA.out _) (by simp)
      have HGW : Hid (w.heap.size ≤ g) := Nat.le_trans G1.size hg1
      clear CP2 O3 hc1 hc2 hg1 hg2 K2 K3 K4 G1
      go_wp2_with fail
      refine CK.mono ?_
      rintro e5 w5 ⟨rfl, K5⟩
      have G5 : w.grownBy w5 none := grown_trans_new G4 K5 (fun x hx => by cases hx; exact HGW.out)
      have n1 : ((v : Int) != (v : Int)) = false := by simp
      have n2 : (b != b) = false := by simp
      clear CK K5 G4
      go_wp2_with fail
      refine (HRW.out _).mono ?_
      rintro e6 w6 ⟨rfl, K6⟩
      have HF : Hid (w.grownBy w6 none) := grown_trans G5 K6
      clear K6 G5 HG
      go_wp2
      go_roundw
      case rel => exact ⟨1, Nat.le_refl _, by simp, HF⟩
      case measure => simp [intOf]
    · rw [show (-((1 : Nat) : Int)) = -1 from rfl]
      have GR := HG.out
      go_wp2_with fail
      refine (awake12_any _).mono ?_
      rintro e14 w14 ⟨rfl, K14⟩
      go_wp2
      go_ret
      exact ⟨rfl, grown_trans GR K14⟩

theorem walk (a : Option Addr) (ca : Nat) (t : List Ng) (w : World) (hA : CV w a (flatG t)) (ha0 : a = none → ca = 0) (hac : t.length ≤ ca) (hax : ca ≤ maxLen) (hal : t.length * 72 ≤ 140737488351232) (hao : ∀ x ∈ t, x.ok) :
    Calls Try.prog 4 #[.slice a t.length ca] w fun e w' => e = .returned (.bool true) ∧ w.grownBy w' none := by
  cases a with
  | some ad => exact walk_ad ad ca t w hA hac hax hal hao
  | none =>
    obtain rfl := ha0 rfl
    have h0 := hA.1 rfl
    have h1 := flatG_len t
    rw [h0, List.length_nil] at h1
    obtain rfl : t = [] := List.eq_nil_of_length_eq_zero (by omega)
    exact walk_nil w

set_option maxRecDepth 100000 in
theorem lifted (os : Os) (started : os.Started) (H : Type) (enc : TypeId × Value → H) :
    ReturnsInHanded {} Try.checked os 4 .any (Rows.typesConstantsSpec.pre6 enc Try.prog Try.f4 Rows.typesConstantsRow.domain false) (Rows.typesConstantsSpec.post enc Try.prog Try.f4 false true false false) := by
  refine returnsInHanded_of_change_sized (C := Try.checked) own started (by kernel_rfl) Try.func4
    (ChangeSpec.witness6 (enc := enc) (C := Try.checked) false ⟨#[], #[.slice none 0 0], []⟩ 8 (by kernel_rfl) (by kernel_rfl) (by kernel_rfl) (by kernel_rfl)) ?_
  intro W base args ds gs before hval0 hW hcnd hsz0 _
  have hsz : (DataW.weightsEach Try.prog (Try.f4.params.toList ++ Rows.typesConstantsSpec.plain.varTypes Try.prog) (ds ++ gs)).all (· ≤ reachBytes) = true := hsz0
  have hval : ∀ (j : Nat) t v, Try.f4.params[j]? = some t → args[j]? = some v → Value.okWide Try.prog W .any base t v := hval0
  have hW' := hW
  obtain ⟨p, q, hA0, hV, rfl, hfz, hnd⟩ := hW
  have hA : DataW.TrodAll enc Try.prog W 0 (fun _ => true) true Try.f4.params.toList args.toList ds p := hA0
  rw [Try.params4] at hA hval hsz
  obtain ⟨v0, vs0, d0, ds0, p0, q0, hargs, rfl, rfl, h0, r0⟩ := trodAll_cons hA
  obtain ⟨rfl, rfl, rfl⟩ := trodAll_nil r0
  obtain rfl : args = #[v0] := by cases args; simp_all
  obtain ⟨rfl, rfl⟩ := trodVars_none hV
  obtain ⟨a0, len0, cap0, rfl⟩ := okWide_slice Try.underlying22 (hval 0 22 v0 rfl rfl)
  have k0 := h0
  have lt0 : ∀ x ∈ p0, x.block < W.heap.size := by obtain ⟨m, hm⟩ := k0; exact DataW.trod_lt m _ _ _ hm
  obtain ⟨xs0, rfl, hcells0, hnil0, hcp0, hok0, hdat0⟩ := open_nodes h0
  have hlen0 : xs0.length * 72 ≤ 140737488351232 := by
    rcases hdat0 with ⟨_, rfl⟩ | ⟨elems, spare, rfl, hle⟩
    · simp
    · have := sized_slice hsz (j := 0) (t := 22) (e := 46) rfl rfl Try.underlying22
      rw [bytes46] at this
      unfold reachBytes at this
      omega
  clear hA0 hval0
  refine (walk a0 cap0 xs0 W hcells0 hnil0 hcp0.1 hcp0.2 (by omega) hok0).mono fun e W' ⟨he, hg⟩ => ?_
  subst he
  have bel : Below W.heap.size W W' := (Below.refl _ _).grown hg (Nat.le_refl _) (by simp)
  exact ⟨_, rfl, _, _, _, [], _, [], hW', trodAll_mk1 (shut_bool Try.underlying4 _), (trodAll_cons_mk (Below.trod laidOut (by kernel_rfl) (of_decide_eq_true (by kernel_rfl)) k0 bel lt0) trodAll_mk0), rfl, bel.frame _, fun h => by cases h⟩

theorem over : Rows.TypesConstantsSaid :=
  OpenClaim.holds_of_wide 4 Try.f4 rfl rfl rfl rfl rfl rfl rfl ⟨rfl, rfl, rfl, rfl, rfl⟩ rfl rfl rfl rfl rfl (by kernel_rfl) Try.func4 (by kernel_rfl)
    (of_decide_eq_true (by kernel_rfl)) (by unfold Func.isWrapper; first | (rw [if_pos (by decide +kernel)]; kernel_rfl) | (rw [if_neg (by decide +kernel)]; exact ⟨rfl, rfl⟩))
    (fun os started H enc _ => lifted os started H enc)

end typesConstants

theorem typesConstants_holds : Rows.TypesConstantsSaid := typesConstants.over
#print axioms typesConstants_holds

end Go.Proofs.Ytgoiblnddfggbaa
