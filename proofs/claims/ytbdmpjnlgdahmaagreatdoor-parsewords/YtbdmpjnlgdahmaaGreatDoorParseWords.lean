/-
  For every string (of such size as the form itself says of each argument) riddlelaw11.ParseWords returns true and leaves what was there as it was: no condition of ours.
-/
import Derived.Test.YtbdmpjnlgdahmaaGreatDoorLotP49
import Derived.Test.YtbdmpjnlgdahmaaGreatDoorLotP22
import Derived.Test.YtbdmpjnlgdahmaaGreatDoorLotP26
import Derived.Test.YtbdmpjnlgdahmaaGreatDoorLotP50
import Derived.BigQuiet
namespace Go.Proofs.YtbdmpjnlgdahmaaGreatDoor
open Go.ChangeShapes Go.WideShapes Go.ChangeAt Go.RowKit
open Go.ChangeMaps (open_string shut_string)
set_option maxRecDepth 100000
namespace parseWords

theorem er_not {s : List UInt8} {x : Er} (hp : parseV s = .error x) : ¬ x.2 = 0 := fun h0 => by
  cases hx : lexV s with
  | error y =>
    have := lexE_err hx
    unfold parseV at hp
    rw [hx, thenE_er] at hp
    cases hp
    rw [h0] at this
    cases this
  | ok ts =>
    have := er_code (parse_er hx hp)
    rw [h0] at this
    simp at this
theorem text_of {w : World} {base : Nat} {v : Value} {xs : List Tk} (h : TOwns w base v xs) (hx : 0 < xs.length) : ∃ g cap, v = .slice (some ⟨g, 0, none⟩) xs.length cap ∧ ∀ i (hi : i < xs.length), w.cell? ⟨g, i * 4 + 2, none⟩ = some (str xs[i].text) := by
  obtain ⟨g, cap, hv, -⟩ := owns_head h hx
  obtain ⟨ao, cap', hv', C, -⟩ := cv_of_row h
  rw [hv] at hv'
  simp only [Value.slice.injEq, true_and] at hv'
  obtain ⟨rfl, rfl⟩ := hv'
  refine ⟨g, cap, hv, fun i hi => ?_⟩
  obtain ⟨b, off, e, hc⟩ := C.toks hi
  simp only [Option.some.injEq, Addr.mk.injEq] at e
  obtain ⟨rfl, rfl, -⟩ := e
  have := (hc i hi).2.2.1
  simpa using this

set_option maxRecDepth 100000 in
set_option maxHeartbeats 16000000 in
theorem walk (s : ByteArray) (w : World) (hs : s.size ≤ 140737488351232) (T : TabB w) :
    Calls Tryz.prog 6 #[.string s] w fun e w' => e = .returned (.bool true) ∧ w.grownBy w' none := by
  have HT : Hid (TabB w) := T
  clear T
  have C0 := pparse_any s (by omega) w HT.out
  have HLX : Hid (∀ W : World, TabB W → Calls Tryz.prog 16 #[.string s] W fun e w' => ∃ v, e = .returned (.tuple #[v, .int .i64 (lexP (lexV (sl s)) : Int), .int .i64 (lexE (lexV (sl s)))]) ∧ TOwns w' W.heap.size v (lexT (lexV (sl s))) ∧ W.grownBy w' none) := fun W TW => lex_any s (by omega) W TW.1
  cases hp : parseV (sl s) with
  | error y =>
    rw [hp] at C0
    have hz := er_not hp
    obtain ⟨p, e⟩ := y
    simp only [prP, prE, prN, List.map_nil] at C0 hz
    have hz' : (e == 0) = false := by simpa using hz
    obtain ⟨P, hP⟩ : ∃ P, lexP (lexV (sl s)) = P := ⟨_, rfl⟩
    obtain ⟨L, hL⟩ : ∃ P, lexE (lexV (sl s)) = P := ⟨_, rfl⟩
    obtain ⟨ts, hts⟩ : ∃ P, lexT (lexV (sl s)) = P := ⟨_, rfl⟩
    rw [hP, hL, hts] at HLX
    clear hp hP hL hts
    go_enter Tryz.func6, Tryz.ntmps6
    go_wp2_with fail
    refine C0.mono ?_
    rintro e w1 ⟨vt, vp, rfl, -, -, K1⟩
    clear C0
    go_wp2_with fail
    refine (HLX.out _ (HT.out.grown (by assumption))).mono ?_
    rintro e w2 ⟨v2, rfl, -, K2⟩
    have G2 := grown_trans K1 K2
    clear HLX K1 K2
    go_wp2_with fail
    refine (awake11_any _ (HT.out.grown (by assumption))).mono ?_
    rintro e w3 ⟨rfl, K3⟩
    go_wp2
    go_ret
    exact ⟨rfl, grown_trans G2 K3⟩
  | ok ns =>
    rw [hp] at C0
    simp only [prP, prE, prN] at C0
    obtain ⟨ts, hts⟩ : ∃ ts, lexV (sl s) = .ok ts := by
      cases hx : lexV (sl s) with
      | ok ts => exact ⟨ts, rfl⟩
      | error y =>
        unfold parseV at hp
        rw [hx, thenE_er] at hp
        cases hp
    rw [hts] at HLX
    simp only [lexP, lexE, lexT] at HLX
    by_cases hbig : (5000 : Int) < (s.size : Int)
    · clear hp hts
      go_enter Tryz.func6, Tryz.ntmps6
      go_wp2_with fail
      refine C0.mono ?_
      rintro e w1 ⟨vt, vp, rfl, -, -, K1⟩
      clear C0
      go_wp2_with fail
      refine (HLX.out _ (HT.out.grown (by assumption))).mono ?_
      rintro e w2 ⟨v2, rfl, O2, K2⟩
      have G2 := grown_trans K1 K2
      clear HLX K1 K2 O2
      go_wp2_with fail
      refine (awake11_any _ (HT.out.grown (by assumption))).mono ?_
      rintro e w3 ⟨rfl, K3⟩
      go_wp2
      go_ret
      exact ⟨rfl, grown_trans G2 K3⟩
    have hpos : 0 < ts.length := by
      obtain ⟨-, us, e, -, -⟩ := lexV_toks hts
      rw [e]; simp
    have htl : ts.length ≤ 65537 := by
      obtain ⟨-, us, e, h1, -⟩ := lexV_toks hts
      rw [e, List.length_append, List.length_singleton]; omega
    obtain ⟨hwl, ns', hw1, hw2⟩ := words_parse (by rw [sl_len]; omega) hts hp
    have HW : Hid (∀ i, (wordS (ts.take i)).length ≤ 20001) := fun i => Nat.le_trans (wordS_take ts i) hwl
    have HP : Hid (parseV (wordS ts) = .ok ns' ∧ ns'.map Prod.fst = ns.map Prod.fst) := ⟨hw1, hw2⟩
    clear hp hts hwl hw1 hw2
    go_enter Tryz.func6, Tryz.ntmps6
    go_wp2_with fail
    refine C0.mono ?_
    rintro e w1 ⟨vt, vp, rfl, O1, Z1, K1⟩
    clear C0 Z1
    go_wp2_with fail
    refine (HLX.out _ (HT.out.grown (by assumption))).mono ?_
    rintro e w2 ⟨v2, rfl, O2, K2⟩
    have HG2 : Hid (w.grownBy w2 none) := grown_trans K1 K2
    obtain ⟨g, cap, rfl, hcg⟩ := text_of O2 hpos
    have HCG : Hid (∀ i (hi : i < ts.length), w2.cell? ⟨g, i * 4 + 2, none⟩ = some (str ts[i].text)) := hcg
    have O1' := owns_keptNone O1 K2
    obtain ⟨a1, c1, rfl, CN1, hb1, hb2, -⟩ := cv_of_row O1'
    have HN1 : Hid (CV w2 a1 (flatN (ns.map Prod.fst))) := CN1
    unfold maxLen at hb2
    clear HLX K1 K2 O2 O1 O1' CN1 hcg
    obtain ⟨L, hL⟩ : ∃ L, ts.length = L := ⟨_, rfl⟩
    have HL : Hid (ts.length = L) := hL
    obtain ⟨M, hM⟩ : ∃ M, (ns.map Prod.fst).length = M := ⟨_, rfl⟩
    have HM : Hid ((ns.map Prod.fst).length = M) := hM
    rw [hM] at hb1 ⊢
    rw [hL] at hpos htl ⊢
    clear hL hM
    go_upto_region 7 with fail
    go_loopw [10, 11, 12] (fun u i _ wr => ∃ (j : Nat) (U : ByteArray), j ≤ L ∧ i = .int .i64 j ∧ u = .string U ∧ U.size ≤ 20001 ∧ Hid (sl U = wordS (ts.take j)) ∧ wr = w2) (fun _ i _ _ => L - (intOf i).toNat)
    case atStart => exact ⟨0, _, Nat.zero_le _, rfl, rfl, by decide, rfl, rfl⟩
    case round =>
      obtain ⟨j, U, hj, rfl, rfl, hU, HU, hwr⟩ := hrel
      subst hwr
      have z0 : (0 : Int) ≤ (j : Int) := by omega
      by_cases hlt : j < L
      · have w3 : IntKind.i64.wrap ((j : Int) + 1) = (j : Int) + 1 := by rw [IntKind.wrap_i64]; omega
        have hl : (j : Int) < (L : Int) := by omega
        have hn : j < ts.length := by rw [HL.out]; exact hlt
        have hsu := wordS_succ hn
        have ct := HCG.out j hn
        have hwi := HW.out (j + 1)
        generalize ts[j].text = x at *
        have HX : Hid (∀ y : List UInt8, swp x = y → sl (U ++ ⟨#[32]⟩ ++ ⟨y.toArray⟩) = wordS (ts.take (j + 1)) ∧ (U ++ ⟨#[32]⟩ ++ ⟨y.toArray⟩).size ≤ 20001) := fun y hy => by
          have e1 : sl (U ++ ⟨#[32]⟩ ++ ⟨y.toArray⟩) = wordS (ts.take (j + 1)) := by
            rw [sl_cat, sl_cat, HU.out, hsu, hy, sl_str]; rfl
          exact ⟨e1, by rw [← sl_len, e1]; exact hwi⟩
        clear hsu hwi hn
        by_cases h0 : x = [97, 110, 100]
        · have e0 : (x == [97, 110, 100]) = true := by simpa using h0
          have hX := HX.out [38, 38] (by rw [h0]; rfl)
          clear h0 HX
          go_wp2
          go_roundw
          case rel => exact ⟨j + 1, _, by omega, by go_num, rfl, hX.2, hX.1, trivial⟩
          case measure => simp [intOf]; omega
        have e0 : (x == [97, 110, 100]) = false := by simpa using h0
        by_cases h1 : x = [38, 38]
        · have e1 : (x == [38, 38]) = true := by simpa using h1
          have hX := HX.out [97, 110, 100] (by rw [h1]; rfl)
          clear h0 h1 HX
          go_wp2
          go_roundw
          case rel => exact ⟨j + 1, _, by omega, by go_num, rfl, hX.2, hX.1, trivial⟩
          case measure => simp [intOf]; omega
        have e1 : (x == [38, 38]) = false := by simpa using h1
        by_cases h2 : x = [111, 114]
        · have e2 : (x == [111, 114]) = true := by simpa using h2
          have hX := HX.out [124, 124] (by rw [h2]; rfl)
          clear h0 h1 h2 HX
          go_wp2
          go_roundw
          case rel => exact ⟨j + 1, _, by omega, by go_num, rfl, hX.2, hX.1, trivial⟩
          case measure => simp [intOf]; omega
        have e2 : (x == [111, 114]) = false := by simpa using h2
        by_cases h3 : x = [124, 124]
        · have e3 : (x == [124, 124]) = true := by simpa using h3
          have hX := HX.out [111, 114] (by rw [h3]; rfl)
          clear h0 h1 h2 h3 HX
          go_wp2
          go_roundw
          case rel => exact ⟨j + 1, _, by omega, by go_num, rfl, hX.2, hX.1, trivial⟩
          case measure => simp [intOf]; omega
        have e3 : (x == [124, 124]) = false := by simpa using h3
        by_cases h4 : x = [110, 111, 116]
        · have e4 : (x == [110, 111, 116]) = true := by simpa using h4
          have hX := HX.out [33] (by rw [h4]; rfl)
          clear h0 h1 h2 h3 h4 HX
          go_wp2
          go_roundw
          case rel => exact ⟨j + 1, _, by omega, by go_num, rfl, hX.2, hX.1, trivial⟩
          case measure => simp [intOf]; omega
        have e4 : (x == [110, 111, 116]) = false := by simpa using h4
        by_cases h5 : x = [33]
        · have e5 : (x == [33]) = true := by simpa using h5
          have hX := HX.out [110, 111, 116] (by rw [h5]; rfl)
          clear h0 h1 h2 h3 h4 h5 HX
          go_wp2
          go_roundw
          case rel => exact ⟨j + 1, _, by omega, by go_num, rfl, hX.2, hX.1, trivial⟩
          case measure => simp [intOf]; omega
        have e5 : (x == [33]) = false := by simpa using h5
        by_cases h6 : x = [61]
        · have e6 : (x == [61]) = true := by simpa using h6
          have hX := HX.out [61, 61] (by rw [h6]; rfl)
          clear h0 h1 h2 h3 h4 h5 h6 HX
          go_wp2
          go_roundw
          case rel => exact ⟨j + 1, _, by omega, by go_num, rfl, hX.2, hX.1, trivial⟩
          case measure => simp [intOf]; omega
        have e6 : (x == [61]) = false := by simpa using h6
        by_cases h7 : x = [61, 61]
        · have e7 : (x == [61, 61]) = true := by simpa using h7
          have hX := HX.out [61] (by rw [h7]; rfl)
          clear h0 h1 h2 h3 h4 h5 h6 h7 HX
          go_wp2
          go_roundw
          case rel => exact ⟨j + 1, _, by omega, by go_num, rfl, hX.2, hX.1, trivial⟩
          case measure => simp [intOf]; omega
        have e7 : (x == [61, 61]) = false := by simpa using h7
        have hX := HX.out x (by unfold swp; rw [if_neg h0, if_neg h1, if_neg h2, if_neg h3, if_neg h4, if_neg h5, if_neg h6, if_neg h7])
        clear h0 h1 h2 h3 h4 h5 h6 h7 HX
        have hx1 : (U ++ ⟨#[32]⟩ ++ ⟨x.toArray⟩).size = U.size + 1 + x.length := by rw [← sl_len, sl_cat, sl_cat, List.length_append, List.length_append, sl_len, sl_str]; rfl
        have hx2 : x.length ≤ 20001 := by have := hX.2; omega
        have hx3 : (⟨x.toArray⟩ : ByteArray).size ≤ 20001 := by rw [← sl_len, sl_str]; exact hx2
        go_wp2
        go_roundw
        case rel => exact ⟨j + 1, _, by omega, by go_num, rfl, hX.2, hX.1, trivial⟩
        case measure => simp [intOf]; omega
      obtain rfl : j = L := by omega
      have hl : ¬ (j : Int) < (j : Int) := by omega
      have CX := pparse_any U (by omega) wr (HT.out.grown HG2.out)
      have e1 : sl U = wordS ts := by rw [HU.out, ← HL.out, List.take_length]
      rw [e1, HP.out.1] at CX
      simp only [prP, prE, prN] at CX
      rw [HP.out.2] at CX
      clear e1 HU
      go_wp2_with fail
      refine CX.mono ?_
      rintro e w4 ⟨v3, v4, rfl, O4, Z4, K4⟩
      obtain ⟨a3, c3, rfl, CN4, -⟩ := cv_of_row O4
      have HS := nsame_any a3 a1 c3 c1 (ns.map Prod.fst) w4 (by assumption) (HN1.out.keptNone K4) (by rw [HM.out]; omega)
      rw [HM.out] at HS ⊢
      have G4 := grown_trans HG2.out K4
      clear CX O4 Z4 K4 CN4
      go_wp2_with fail
      refine HS.mono ?_
      rintro e w5 ⟨rfl, m5, rfl⟩
      have G5 := grown_trans G4 (grown_drewN w4 m5 none)
      clear HS G4
      go_wp2_with fail
      refine (awake11_any _ (HT.out.grown (by assumption))).mono ?_
      rintro e w7 ⟨rfl, K7⟩
      go_wp2
      go_ret
      exact ⟨rfl, grown_trans G5 K7⟩

set_option maxRecDepth 100000 in
theorem lifted (os : Os) (started : os.Started) (H : Type) (enc : TypeId × Value → H) (F : Stop.Interp) :
    ReturnsInHanded {} Tryz.checked os 6 .any ((OpenSpec.ofChange Rows.parseWordsSpec).preRow enc Tryz.prog Tryz.f6 Rows.parseWordsRow.domain false Rows.parseWordsRow.laid) (((OpenSpec.ofChange Rows.parseWordsSpec).at F).post enc Tryz.prog Tryz.f6 false true false false) := by
  have hx : DataW.whole enc Tryz.prog ((laidWorld os).forCall (fun _ _ => 0) ⟨#[], #[.string .empty], []⟩).memory Tryz.f6.params.toList Rows.parseWordsSpec.vars false (#[.string .empty] : Array Value).toList 8 = some ([.lit (.string [])], [], []) := by kernel_rfl
  refine returnsInHanded_of_row (C := Tryz.checked) (s := (OpenSpec.ofChange Rows.parseWordsSpec)) own started (by kernel_rfl) Tryz.func6
    (witness_row_atRef (enc := enc) (C := Tryz.checked) false (laidWorld os) #[.string .empty] (World.laidAll_os _ _ _) (by kernel_rfl) (by kernel_rfl) (by kernel_rfl)
      (OpenSpec.preRow_of_cond 8 hx (by kernel_rfl) (fun k hk => by cases hk) (by kernel_rfl) (laid_met os _))) ?_
  intro W base args ds gs before hval0 hW hcnd hcond hsz0 hL hsh _
  have hsz : (DataW.weightsEach Tryz.prog (Tryz.f6.params.toList ++ Rows.parseWordsSpec.plain.varTypes Tryz.prog) (ds ++ gs)).all (· ≤ reachBytes) = true := hsz0
  have T : TabB W := laid_tabB hL hsh
  have hval : ∀ (j : Nat) t v, Tryz.f6.params[j]? = some t → args[j]? = some v → Value.okWide Tryz.prog W .any base t v := hval0
  have hW' := hW
  obtain ⟨p, q, hA0, hV, rfl, hfz, hnd⟩ := hW
  have hA : DataW.TrodAll enc Tryz.prog W 0 (fun _ => true) true Tryz.f6.params.toList args.toList ds p := hA0
  rw [Tryz.params6] at hA hval hsz
  obtain ⟨v0, vs0, d0, ds0, p0, q0, hargs, rfl, rfl, h0, r0⟩ := trodAll_cons hA
  obtain ⟨rfl, rfl, rfl⟩ := trodAll_nil r0
  obtain rfl : args = #[v0] := by cases args; simp_all
  obtain ⟨rfl, rfl⟩ := trodVars_none hV
  obtain ⟨s0, rfl, rfl, rfl, hs0⟩ := open_string Tryz.underlying9 (hval 0 9 v0 rfl rfl) h0
  have hlen0 : s0.size ≤ 140737488351232 := by
    have h := sized_string hsz (j := 0) (t := 9) rfl rfl
    unfold reachBytes at h
    have e : s0.data.toList.length = s0.size := by rw [Array.length_toList]; rfl
    omega
  clear hA0 hval0
  refine (walk s0 W hlen0 T).mono fun e W' ⟨he, hg⟩ => ?_
  subst he
  have bel : Below W.heap.size W W' := (Below.refl _ _).grown hg (Nat.le_refl _) (by simp)
  exact ⟨_, rfl, _, _, _, [], _, [], hW', trodAll_mk1 (shut_bool Tryz.underlying4 _), (trodAll_cons_mk (shut_string Tryz.underlying9 hs0) trodAll_mk0), rfl, bel.frame _, fun h => by cases h⟩

theorem over : Rows.ParseWordsSaid :=
  OpenClaim.holds_of_cond 6 Tryz.f6 rfl rfl rfl rfl rfl rfl rfl ⟨rfl, rfl, rfl, rfl, rfl⟩ rfl rfl rfl rfl rfl (by kernel_rfl) Tryz.func6 (by kernel_rfl)
    (of_decide_eq_true (by kernel_rfl)) (by unfold Func.isWrapper; first | (rw [if_pos (by decide +kernel)]; kernel_rfl) | (rw [if_neg (by decide +kernel)]; exact ⟨rfl, rfl⟩))
    (fun os started H enc _ F => by rw [OpenClaim.pre_eq_preRow]; exact lifted os started H enc F)

theorem plain (f : FuncId) (fn : Func) (hf : Tryz.pinned.checked.prog.funcNamed "riddle/riddlelaw11.ParseWords" = some f) (hfn : Tryz.pinned.checked.prog.funcs[f]? = some fn) :
    true = Tryz.pinned.checked.prog.looks [] ∧ ∀ (j : Nat) t, fn.params[j]? = some t → Tryz.pinned.checked.prog.wantsStandIn t = false := by
  obtain rfl : f = 6 := Option.some.inj ((show Tryz.prog.funcNamed "riddle/riddlelaw11.ParseWords" = some 6 by kernel_rfl).symm.trans hf) |>.symm
  obtain rfl : fn = Tryz.f6 := (Option.some.inj (Tryz.func6.symm.trans hfn)).symm
  refine ⟨by kernel_rfl, fun j t ht => ?_⟩
  rw [Tryz.params6] at ht
  have ht2 := Array.mem_of_getElem? ht
  simp only [List.mem_toArray, List.mem_cons, List.not_mem_nil, or_false] at ht2
  rcases ht2 with rfl
  · exact (show Tryz.prog.wantsStandIn 9 = false by kernel_rfl)

theorem card : Rows.ParseWordsCardSaid :=
  Claim7.holds_tied_plain_at .later [] _ _ _ _ over (fun _ h => by cases h) (by kernel_rfl) (fun _ h => by cases h) parseWords_row_tie rfl ⟨rfl, rfl⟩ (by kernel_rfl) rfl plain (by kernel_rfl)

end parseWords

theorem parseWords_holds : Rows.ParseWordsCardSaid := parseWords.card
#print axioms parseWords_holds

end Go.Proofs.YtbdmpjnlgdahmaaGreatDoor
