/-
  For every string (of such size as the form itself says of each argument) and every number riddlelaw11.ParseBrackets returns true and leaves what was there as it was: no condition of ours.
-/
import Derived.Test.YtbdmpjnlgdahmaaGreatDoorLotP49
import Derived.Test.YtbdmpjnlgdahmaaGreatDoorLotP22
import Derived.Test.YtbdmpjnlgdahmaaGreatDoorLotP2
import Derived.Test.YtbdmpjnlgdahmaaGreatDoorLotP26
import Derived.Test.YtbdmpjnlgdahmaaGreatDoorLotP50
import Derived.BigQuiet
namespace Go.Proofs.YtbdmpjnlgdahmaaGreatDoor
open Go.ChangeShapes Go.WideShapes Go.ChangeAt Go.RowKit
open Go.ChangeMaps (open_string shut_string)
set_option maxRecDepth 100000
namespace parseBrackets

theorem er_not {s : List UInt8} {x : Er} (hp : parseV s = .error x) : ¬ x.2 = 0 := fun h0 => by
  cases hx : lexV s with
  | error y =>
    have := lexE_err hx
    unfold parseV at hp
    rw [hx, thenE_er] at hp
    cases hp
    rw [h0] at this
    cases this
  | ok ts =>
    have := er_code (parse_er hx hp)
    rw [h0] at this
    simp at this
theorem small_of {s : List UInt8} {ns : List (Nd × Nat)} (hp : parseV s = .ok ns) : ∀ q ∈ ns, q.2 < s.length := by
  have hp0 := hp
  unfold parseV at hp
  obtain ⟨ts, h, -⟩ := thenE_inv hp
  exact fun q hq => ((ok_of h hp0).2 q hq).2

set_option maxRecDepth 100000 in
set_option maxHeartbeats 16000000 in
theorem walk (s : ByteArray) (x : Int) (w : World) (hs : s.size ≤ 140737488351232) (T : TabB w) :
    Calls Tryz.prog 5 #[.string s, .int .i64 x] w fun e w' => e = .returned (.bool true) ∧ w.grownBy w' none := by
  have HT : Hid (TabB w) := T
  clear T
  have C0 := pparse_any s (by omega) w HT.out
  cases hp : parseV (sl s) with
  | error y =>
    rw [hp] at C0
    have hz := er_not hp
    obtain ⟨p, e⟩ := y
    simp only [prP, prE, prN, List.map_nil] at C0 hz
    have hz' : (e == 0) = false := by simpa using hz
    clear hp
    go_enter Tryz.func5, Tryz.ntmps5
    go_wp2_with fail
    refine C0.mono ?_
    rintro e w1 ⟨vt, vp, rfl, -, -, K1⟩
    clear C0
    go_wp2_with fail
    refine (awake11_any _ (HT.out.grown (by assumption))).mono ?_
    rintro e w3 ⟨rfl, K3⟩
    go_wp2
    go_ret
    exact ⟨rfl, grown_trans K1 K3⟩
  | ok ns =>
    rw [hp] at C0
    simp only [prP, prE, prN] at C0
    by_cases hbig : (5000 : Int) < (s.size : Int)
    · clear hp
      go_enter Tryz.func5, Tryz.ntmps5
      go_wp2_with fail
      refine C0.mono ?_
      rintro e w1 ⟨vt, vp, rfl, -, -, K1⟩
      clear C0
      go_wp2_with fail
      refine (awake11_any _ (HT.out.grown (by assumption))).mono ?_
      rintro e w3 ⟨rfl, K3⟩
      go_wp2
      go_ret
      exact ⟨rfl, grown_trans K1 K3⟩
    have hsz : s.size ≤ 5000 := by omega
    have HP : Hid (parseV (sl s) = .ok ns) := hp
    have HQ : Hid (∀ q ∈ ns, q.2 < s.size) := fun q hq => by rw [← sl_len]; exact small_of HP.out q hq
    clear hp hs
    have hlw := lowV_lt x
    generalize hlow : lowV x = lw at *
    have CL : Hid (∀ W : World, Calls Tryz.prog 19 #[.int .i64 x] W fun e w' => e = .returned (.int .i64 (lw : Int)) ∧ W = w') := fun W => by rw [← hlow]; exact low_any x W
    clear hlow
    go_enter Tryz.func5, Tryz.ntmps5
    go_wp2_with fail
    refine C0.mono ?_
    rintro e w1 ⟨vt, vp, rfl, O1, Z1, K1⟩
    have HK1 : Hid (w.grownBy w1 none) := K1
    obtain ⟨a1, c1, rfl, CN1, hb1, hb2, -⟩ := cv_of_row O1
    obtain ⟨a2, c2, rfl, CZ1, -⟩ := cv_of_row Z1
    have HN1 : Hid (CV w1 a1 (flatN (ns.map Prod.fst))) := CN1
    have HZ1 : Hid (CV w1 a2 ((ns.map plc).map iv)) := CZ1
    unfold maxLen at hb2
    simp only [List.length_map] at hb1 ⊢
    obtain ⟨L, hL⟩ : ∃ L, ns.length = L := ⟨_, rfl⟩
    have HL : Hid (ns.length = L) := hL
    rw [hL] at hb1 ⊢
    clear C0 O1 Z1 K1 CN1 CZ1 hL
    go_wp2_with fail
    refine (CL.out _).mono ?_
    rintro e w3 ⟨rfl, rfl⟩
    clear CL
    go_upto_region 7 with fail
    obtain ⟨k, hk⟩ : ∃ k : Nat, lw % 190 = k := ⟨_, rfl⟩
    have hki : (lw : Int) % 190 = (k : Int) := by omega
    have hk8 : k < 190 := by omega
    rw [hki]
    clear hki hk hlw
    go_loopw [10, 11] (fun u i wr => ∃ (j : Nat) (U : ByteArray), j ≤ k ∧ i = .int .i64 j ∧ u = .string U ∧ U.size = s.size + 2 * j ∧ Hid (sl U = wrapS j (sl s)) ∧ wr = w1) (fun _ i _ => k - (intOf i).toNat)
    case atStart => exact ⟨0, s, Nat.zero_le _, rfl, rfl, rfl, rfl, rfl⟩
    case round =>
      obtain ⟨j, U, hj, rfl, rfl, hU, HU, rfl⟩ := hrel
      have w3 : IntKind.i64.wrap ((j : Int) + 1) = (j : Int) + 1 := by rw [IntKind.wrap_i64]; omega
      by_cases hlt : j < k
      · have hl : (j : Int) < (k : Int) := by omega
        have HU2 : Hid (sl ((⟨#[40]⟩ : ByteArray) ++ U ++ ⟨#[41]⟩) = wrapS (j + 1) (sl s)) := by
          show sl _ = _
          rw [sl_cat, sl_cat, HU.out]; rfl
        have hU2 : ((⟨#[40]⟩ : ByteArray) ++ U ++ ⟨#[41]⟩).size = s.size + 2 * (j + 1) := by rw [← sl_len, HU2.out, wrapS_len, sl_len]
        go_wp2
        go_roundw
        case rel => exact ⟨j + 1, _, by omega, by go_num, rfl, hU2, HU2, trivial⟩
        case measure => simp [intOf]; omega
      obtain rfl : j = k := by omega
      have hl : ¬ (j : Int) < (j : Int) := by omega
      have CX := pparse_any U (by omega) wr (HT.out.grown HK1.out)
      rw [HU.out] at CX
      have hww := wrap_parse j (s := sl s) (by rw [sl_len]; omega) HP.out
      rcases hww with hw | ⟨p, hw⟩
      · rw [hw] at CX
        simp only [prP, prE, prN, List.map_map] at CX
        clear hlt hw
        go_wp2_with fail
        refine CX.mono ?_
        rintro e w4 ⟨v3, v4, rfl, O4, Z4, K4⟩
        have e1 : ns.map (Prod.fst ∘ fun q : Nd × Nat => (q.1, q.2 + j)) = ns.map Prod.fst := List.map_congr_left fun _ _ => rfl
        rw [e1] at O4
        obtain ⟨a3, c3, rfl, CN4, -⟩ := cv_of_row O4
        obtain ⟨a4, c4, rfl, CZ4, -⟩ := cv_of_row Z4
        have HS := nsame_any a3 a1 c3 c1 (ns.map Prod.fst) w4 CN4 (HN1.out.keptNone K4) (by rw [List.length_map, HL.out]; omega)
        rw [List.length_map, HL.out] at HS
        simp only [List.length_map]
        rw [HL.out]
        have HZ4 : Hid (CV w4 a4 ((ns.map (plc ∘ fun q : Nd × Nat => (q.1, q.2 + j))).map iv)) := CZ4
        have HZ1' : Hid (CV w4 a2 ((ns.map plc).map iv)) := HZ1.out.keptNone K4
        have HK4 : Hid (w.grownBy w4 none) := grown_trans HK1.out K4
        have hee : ((L : Int) == (L : Int)) = true := by simp
        clear CX O4 Z4 K4 CN4 CZ4 HZ1 HN1
        go_wp2_with fail
        refine HS.mono ?_
        rintro e w5 ⟨rfl, m5, rfl⟩
        clear HS
        go_upto_region 16 with fail
        go_loopw [16] (fun i wx => ∃ q n : Nat, q ≤ L ∧ i = .int .i64 q ∧ wx = w4.drewN n) (fun i _ => L - (intOf i).toNat)
        case atStart => exact ⟨0, m5, Nat.zero_le _, rfl, rfl⟩
        case round =>
          obtain ⟨q, n, hq, rfl, rfl⟩ := hrel
          have z0 : (0 : Int) ≤ (q : Int) := by omega
          by_cases hlt : q < L
          · have w6 : IntKind.i64.wrap ((q : Int) + 1) = (q : Int) + 1 := by rw [IntKind.wrap_i64]; omega
            have hl2 : (q : Int) < (L : Int) := by omega
            have hn : q < ns.length := by rw [HL.out]; exact hlt
            have hsm := HQ.out _ (List.getElem_mem hn)
            obtain ⟨b4, o4, rfl, hc4⟩ := HZ4.out.addr (k := q) (by simpa using hn)
            obtain ⟨b2, o2, rfl, hc2⟩ := HZ1'.out.addr (k := q) (by simpa using hn)
            have d4 := hc4 q (by simpa using hn)
            have d2 := hc2 q (by simpa using hn)
            simp only [List.getElem_map, Function.comp_apply, plc] at d4 d2
            have f4 : w4.cell? ⟨b4, o4 + q, none⟩ = some (.int .i64 ((ns[q].2 + j : Nat) : Int)) := d4
            have f2 : w4.cell? ⟨b2, o2 + q, none⟩ = some (.int .i64 ((ns[q].2 : Nat) : Int)) := d2
            generalize ns[q].2 = r at *
            have g2 : IntKind.i64.wrap ((r : Int) + (j : Int)) = (r : Int) + (j : Int) := by rw [IntKind.wrap_i64]; omega
            have g3 : (((r + j : Nat) : Int) == (r : Int) + (j : Int)) = true := by simp
            have g4 : ((r + j : Nat) : Int) = (r : Int) + (j : Int) := by omega
            clear hc4 hc2 d4 d2 hn
            rw [g4] at f4 g3
            clear g4
            go_wp2_with fail
            go_quiet (fail)
            go_wp2
            go_roundw
            case rel => exact ⟨q + 1, _, by omega, by go_num, by rfl⟩
            case measure => simp [intOf]; omega
          have hl2 : ¬ (q : Int) < (L : Int) := by omega
          have HK5 : Hid (w.grownBy (w4.drewN n) none) := grown_trans HK4.out (grown_drewN w4 n none)
          generalize w4.drewN n = w5 at *
          clear HZ4 HZ1' HK4 hlt hq z0
          go_upto_region 21 with fail
          go_loopw [10, 17] (fun u i wx => ∃ (q : Nat) (U : ByteArray), q ≤ 201 ∧ i = .int .i64 q ∧ u = .string U ∧ U.size = s.size + 2 * q ∧ Hid (sl U = wrapS q (sl s)) ∧ wx = w5) (fun _ i _ => 201 - (intOf i).toNat)
          case atStart => exact ⟨j, U, by omega, rfl, rfl, hU, HU, rfl⟩
          case round =>
            clear HU hU w3 hl hl2
            obtain ⟨q, U, hj, rfl, rfl, hU, HU, rfl⟩ := hrel
            have w3 : IntKind.i64.wrap ((q : Int) + 1) = (q : Int) + 1 := by rw [IntKind.wrap_i64]; omega
            by_cases hlt : q < 201
            · have hl : (q : Int) < 201 := by omega
              have HU2 : Hid (sl ((⟨#[40]⟩ : ByteArray) ++ U ++ ⟨#[41]⟩) = wrapS (q + 1) (sl s)) := by
                show sl _ = _
                rw [sl_cat, sl_cat, HU.out]; rfl
              have hU2 : ((⟨#[40]⟩ : ByteArray) ++ U ++ ⟨#[41]⟩).size = s.size + 2 * (q + 1) := by rw [← sl_len, HU2.out, wrapS_len, sl_len]
              go_wp2
              go_roundw
              case rel => exact ⟨q + 1, _, by omega, by go_num, rfl, hU2, HU2, trivial⟩
              case measure => simp [intOf]; omega
            obtain rfl : q = 201 := by omega
            have CY := pparse_any U (by omega) _ (HT.out.grown HK5.out)
            rw [HU.out, wrap_deepV (by rw [sl_len]; omega) HP.out] at CY
            simp only [prP, prE, prN, List.map_nil] at CY
            have G5 := HK5.out
            clear hlt HU w3
            go_wp2_with fail
            refine CY.mono ?_
            rintro e w6 ⟨v6, v7, rfl, -, -, K6⟩
            have G6 := grown_trans G5 K6
            clear CY G5 K6
            go_wp2_with fail
            refine (awake11_any _ (HT.out.grown (by assumption))).mono ?_
            rintro e w7 ⟨rfl, K7⟩
            go_wp2
            go_ret
            exact ⟨rfl, grown_trans G6 K7⟩
      · rw [hw] at CX
        simp only [prP, prE, prN, List.map_nil] at CX
        have hj0 : j ≠ 0 := fun h0 => by
          subst h0
          rw [wrap_zero, HP.out] at hw
          cases hw
        have hj1 : (0 : Int) < (j : Int) := by omega
        have hp0 : (0 : Int) ≤ (p : Int) := by omega
        have G1 := HK1.out
        clear hlt hw HU hj0
        go_wp2_with fail
        refine CX.mono ?_
        rintro e w4 ⟨v3, v4, rfl, -, -, K4⟩
        have G4 := grown_trans G1 K4
        clear CX G1 K4
        go_wp2_with fail
        refine (awake11_any _ (HT.out.grown (by assumption))).mono ?_
        rintro e w7 ⟨rfl, K7⟩
        go_wp2
        go_ret
        exact ⟨rfl, grown_trans G4 K7⟩

set_option maxRecDepth 100000 in
theorem lifted (os : Os) (started : os.Started) (H : Type) (enc : TypeId × Value → H) (F : Stop.Interp) :
    ReturnsInHanded {} Tryz.checked os 5 .any ((OpenSpec.ofChange Rows.parseBracketsSpec).preRow enc Tryz.prog Tryz.f5 Rows.parseBracketsRow.domain false Rows.parseBracketsRow.laid) (((OpenSpec.ofChange Rows.parseBracketsSpec).at F).post enc Tryz.prog Tryz.f5 false true false false) := by
  have hx : DataW.whole enc Tryz.prog ((laidWorld os).forCall (fun _ _ => 0) ⟨#[], #[.string .empty, .int .i64 0], []⟩).memory Tryz.f5.params.toList Rows.parseBracketsSpec.vars false (#[.string .empty, .int .i64 0] : Array Value).toList 8 = some ([.lit (.string []), .lit (.int .i64 0)], [], []) := by kernel_rfl
  refine returnsInHanded_of_row (C := Tryz.checked) (s := (OpenSpec.ofChange Rows.parseBracketsSpec)) own started (by kernel_rfl) Tryz.func5
    (witness_row_atRef (enc := enc) (C := Tryz.checked) false (laidWorld os) #[.string .empty, .int .i64 0] (World.laidAll_os _ _ _) (by kernel_rfl) (by kernel_rfl) (by kernel_rfl)
      (OpenSpec.preRow_of_cond 8 hx (by kernel_rfl) (fun k hk => by cases hk) (by kernel_rfl) (laid_met os _))) ?_
  intro W base args ds gs before hval0 hW hcnd hcond hsz0 hL hsh _
  have hsz : (DataW.weightsEach Tryz.prog (Tryz.f5.params.toList ++ Rows.parseBracketsSpec.plain.varTypes Tryz.prog) (ds ++ gs)).all (· ≤ reachBytes) = true := hsz0
  have T : TabB W := laid_tabB hL hsh
  have hval : ∀ (j : Nat) t v, Tryz.f5.params[j]? = some t → args[j]? = some v → Value.okWide Tryz.prog W .any base t v := hval0
  have hW' := hW
  obtain ⟨p, q, hA0, hV, rfl, hfz, hnd⟩ := hW
  have hA : DataW.TrodAll enc Tryz.prog W 0 (fun _ => true) true Tryz.f5.params.toList args.toList ds p := hA0
  rw [Tryz.params5] at hA hval hsz
  obtain ⟨v0, vs0, d0, ds0, p0, q0, hargs, rfl, rfl, h0, r0⟩ := trodAll_cons hA
  obtain ⟨v1, vs1, d1, ds1, p1, q1, rfl, rfl, rfl, h1, r1⟩ := trodAll_cons r0
  obtain ⟨rfl, rfl, rfl⟩ := trodAll_nil r1
  obtain rfl : args = #[v0, v1] := by cases args; simp_all
  obtain ⟨rfl, rfl⟩ := trodVars_none hV
  obtain ⟨s0, rfl, rfl, rfl, hs0⟩ := open_string Tryz.underlying9 (hval 0 9 v0 rfl rfl) h0
  obtain ⟨x1, rfl, rfl, rfl, w1⟩ := open_int Tryz.underlying3 (hval 1 3 v1 rfl rfl) h1
  have hlen0 : s0.size ≤ 140737488351232 := by
    have h := sized_string hsz (j := 0) (t := 9) rfl rfl
    unfold reachBytes at h
    have e : s0.data.toList.length = s0.size := by rw [Array.length_toList]; rfl
    omega
  clear hA0 hval0
  refine (walk s0 x1 W hlen0 T).mono fun e W' ⟨he, hg⟩ => ?_
  subst he
  have bel : Below W.heap.size W W' := (Below.refl _ _).grown hg (Nat.le_refl _) (by simp)
  exact ⟨_, rfl, _, _, _, [], _, [], hW', trodAll_mk1 (shut_bool Tryz.underlying4 _), (trodAll_cons_mk (shut_string Tryz.underlying9 hs0) (trodAll_cons_mk (shut_int Tryz.underlying3 w1) trodAll_mk0)), rfl, bel.frame _, fun h => by cases h⟩

theorem over : Rows.ParseBracketsSaid :=
  OpenClaim.holds_of_cond 5 Tryz.f5 rfl rfl rfl rfl rfl rfl rfl ⟨rfl, rfl, rfl, rfl, rfl⟩ rfl rfl rfl rfl rfl (by kernel_rfl) Tryz.func5 (by kernel_rfl)
    (of_decide_eq_true (by kernel_rfl)) (by unfold Func.isWrapper; first | (rw [if_pos (by decide +kernel)]; kernel_rfl) | (rw [if_neg (by decide +kernel)]; exact ⟨rfl, rfl⟩))
    (fun os started H enc _ F => by rw [OpenClaim.pre_eq_preRow]; exact lifted os started H enc F)

theorem plain (f : FuncId) (fn : Func) (hf : Tryz.pinned.checked.prog.funcNamed "riddle/riddlelaw11.ParseBrackets" = some f) (hfn : Tryz.pinned.checked.prog.funcs[f]? = some fn) :
    true = Tryz.pinned.checked.prog.looks [] ∧ ∀ (j : Nat) t, fn.params[j]? = some t → Tryz.pinned.checked.prog.wantsStandIn t = false := by
  obtain rfl : f = 5 := Option.some.inj ((show Tryz.prog.funcNamed "riddle/riddlelaw11.ParseBrackets" = some 5 by kernel_rfl).symm.trans hf) |>.symm
  obtain rfl : fn = Tryz.f5 := (Option.some.inj (Tryz.func5.symm.trans hfn)).symm
  refine ⟨by kernel_rfl, fun j t ht => ?_⟩
  rw [Tryz.params5] at ht
  have ht2 := Array.mem_of_getElem? ht
  simp only [List.mem_toArray, List.mem_cons, List.not_mem_nil, or_false] at ht2
  rcases ht2 with rfl | rfl
  · exact (show Tryz.prog.wantsStandIn 9 = false by kernel_rfl)
  · exact (show Tryz.prog.wantsStandIn 3 = false by kernel_rfl)

theorem card : Rows.ParseBracketsCardSaid :=
  Claim7.holds_tied_plain_at .later [] _ _ _ _ over (fun _ h => by cases h) (by kernel_rfl) (fun _ h => by cases h) parseBrackets_row_tie rfl ⟨rfl, rfl⟩ (by kernel_rfl) rfl plain (by kernel_rfl)

end parseBrackets

theorem parseBrackets_holds : Rows.ParseBracketsCardSaid := parseBrackets.card
#print axioms parseBrackets_holds

end Go.Proofs.YtbdmpjnlgdahmaaGreatDoor
