/-
  For every string (of such size as the form itself says of each argument) riddlelaw11.ParseCuts returns true and leaves what was there as it was: no condition of ours.
-/
import Derived.Test.YtbdmpjnlgdahmabGreatDoorLotP50
import Derived.Test.YtbdmpjnlgdahmabGreatDoorLotP51
import Derived.Test.YtbdmpjnlgdahmabGreatDoorLotP23
import Derived.BigQuiet
namespace Go.Proofs.YtbdmpjnlgdahmabGreatDoor
open Go.ChangeShapes Go.WideShapes Go.ChangeAt Go.RowKit
open Go.ChangeMaps (open_string shut_string)
set_option maxRecDepth 100000
namespace parseCuts

theorem toks_of {w : World} {base : Nat} {v : Value} {xs : List Tk} (h : TOwns w base v xs) (hx : 0 < xs.length) : ∃ g cap, v = .slice (some ⟨g, 0, none⟩) xs.length cap ∧ ∀ i (hi : i < xs.length), w.cell? ⟨g, i * 4 + 1, none⟩ = some (.int .i64 (xs[i].pos : Int)) := by
  obtain ⟨g, cap, hv, -⟩ := owns_head h hx
  obtain ⟨ao, cap', hv', C, -⟩ := cv_of_row h
  rw [hv] at hv'
  simp only [Value.slice.injEq, true_and] at hv'
  obtain ⟨rfl, rfl⟩ := hv'
  refine ⟨g, cap, hv, fun i hi => ?_⟩
  obtain ⟨b, off, e, hc⟩ := C.toks hi
  simp only [Option.some.injEq, Addr.mk.injEq] at e
  obtain ⟨rfl, rfl, -⟩ := e
  have := (hc i hi).2.1
  simpa using this

/-- A beginning of a source that is a tree. -/
theorem cut_of {s : List UInt8} {ts : List Tk} {ns : List (Nd × Nat)} (h : lexV s = .ok ts) (hp : parseV s = .ok ns) (i : Nat) (hi : i + 1 < ts.length) :
    ts[i].pos ≤ s.length ∧ ((∃ ms, parseV (s.take ts[i].pos) = .ok ms ∧ ms ≠ []) ∨ parseV (s.take ts[i].pos) = .error (ts[i].pos, 110)) := by
  obtain ⟨hl, us, e, -, ht⟩ := lexV_toks h
  have e1 : lexV s = lexR 0 s := by rw [lexV, if_neg (by omega)]
  have e2 := lexR_cut _ 0 s ts (Nat.le_refl _) (by rw [← e1]; exact h) i (by omega)
  rw [Nat.sub_zero] at e2
  obtain ⟨vs, e3, -⟩ := lexR_end _ _ _ _ (Nat.le_refl _) e2
  have e4 := congrArg (fun l : List Tk => l.getLast?.map Tk.pos) e3
  simp only [List.getLast?_concat, Option.map_some, Option.some.injEq, Nat.zero_add, List.length_take] at e4
  have hle : ts[i].pos ≤ s.length := by omega
  refine ⟨hle, ?_⟩
  have e5 : lexV (s.take ts[i].pos) = .ok (ts.take i ++ [⟨0, ts[i].pos, [], 0⟩]) := by rw [lexV, if_neg (by rw [List.length_take]; omega)]; exact e2
  have hul : i < us.length := by rw [e] at hi; simp at hi; omega
  have hk : ∀ x ∈ us, x.kind ≠ 0 := fun x hx => by
    have := (tok_ok (ht x hx).2.1).2.2.2.1
    omega
  have h1 : ts.take i = us.take i := by rw [e, List.take_append_of_le_length (by omega)]
  have h2 : ts = us.take i ++ (us.drop i ++ [⟨0, s.length, [], 0⟩]) := by rw [← List.append_assoc, List.take_append_drop]; exact e
  have hA : EndsOk (us.drop i ++ [⟨0, s.length, [], 0⟩]) := ⟨_, _, rfl, rfl, fun x hx => hk x (List.mem_of_mem_drop hx)⟩
  have e6 : parseV (s.take ts[i].pos) = parseT (us.take i ++ [⟨0, ts[i].pos, [], 0⟩]) := by rw [parseV, e5, thenE_ok, h1]
  have e7 : parseV s = parseT (us.take i ++ (us.drop i ++ [⟨0, s.length, [], 0⟩])) := by rw [parseV, h, thenE_ok, ← h2]
  rw [e6]
  rcases two_runs (e := ⟨0, ts[i].pos, [], 0⟩) (fun t ht' => hk t (List.mem_of_mem_take ht')) hA rfl with ⟨ms, h3, h4⟩ | ⟨h3, -⟩ | ⟨x, -, h4, -⟩
  · exact .inl ⟨ms, h3, h4⟩
  · exact .inr h3
  · rw [e7, h4] at hp
    cases hp

theorem lexE_zero {s : List UInt8} (h : lexE (lexV s) = 0) : ∃ ts, lexV s = .ok ts := by
  cases hx : lexV s with
  | ok ts => exact ⟨ts, rfl⟩
  | error e =>
    rw [hx] at h
    exact absurd (show e.2 = 0 from h) (by have := lexE_err hx; simpa using this)

set_option maxRecDepth 100000 in
set_option maxHeartbeats 8000000 in
theorem walk (s : ByteArray) (w : World) (hs : s.size ≤ 140737488351232) (T : TabB w) :
    Calls Tryz.prog 3 #[.string s] w fun e w' => e = .returned (.bool true) ∧ w.grownBy w' none := by
  have HT : Hid (TabB w) := T
  clear T
  have C0 := pparse_any s (by omega) w HT.out
  have HLX : Hid (∀ W : World, TabB W → Calls Tryz.prog 6 #[.string s] W fun e w' => ∃ v, e = .returned (.tuple #[v, .int .i64 (lexP (lexV (sl s)) : Int), .int .i64 (lexE (lexV (sl s)))]) ∧ TOwns w' W.heap.size v (lexT (lexV (sl s))) ∧ W.grownBy w' none) := fun W TW => lex_any s (by omega) W TW.1
  cases hp : parseV (sl s) with
  | error x =>
    rw [hp] at C0
    obtain ⟨p, e⟩ := x
    simp only [prP, prE] at C0
    have hz : ¬ e = 0 := fun h0 => by
      subst h0
      cases hx : lexV (sl s) with
      | error y =>
        have := lexE_err hx
        unfold parseV at hp
        rw [hx, thenE_er] at hp
        cases hp
        simp at this
      | ok ts =>
        have := er_code (parse_er hx hp)
        simp at this
    have hz' : (e == 0) = false := by simpa using hz
    obtain ⟨P, hP⟩ : ∃ P, lexP (lexV (sl s)) = P := ⟨_, rfl⟩
    obtain ⟨L, hL⟩ : ∃ P, lexE (lexV (sl s)) = P := ⟨_, rfl⟩
    obtain ⟨ts, hts⟩ : ∃ P, lexT (lexV (sl s)) = P := ⟨_, rfl⟩
    rw [hP, hL, hts] at HLX
    clear hp hP hL hts
    go_enter Tryz.func3, Tryz.ntmps3
    go_wp2_with fail
    refine C0.mono ?_
    rintro e w1 ⟨vt, vp, rfl, -, -, K1⟩
    clear C0
    go_wp2_with fail
    refine (HLX.out _ (HT.out.grown (by assumption))).mono ?_
    rintro e w2 ⟨v2, rfl, -, K2⟩
    have G2 := grown_trans K1 K2
    clear HLX K1 K2
    go_wp2_with fail
    refine (awake11_any _ (HT.out.grown (by assumption))).mono ?_
    rintro e w3 ⟨rfl, K3⟩
    go_wp2
    go_ret
    exact ⟨rfl, grown_trans G2 K3⟩
  | ok ns =>
    rw [hp] at C0
    simp only [prP, prE] at C0
    obtain ⟨ts, hts⟩ : ∃ ts, lexV (sl s) = .ok ts := by
      cases hx : lexV (sl s) with
      | ok ts => exact ⟨ts, rfl⟩
      | error y =>
        unfold parseV at hp
        rw [hx, thenE_er] at hp
        cases hp
    rw [hts] at HLX
    simp only [lexP, lexE, lexT] at HLX
    have hpos : 0 < ts.length := by
      obtain ⟨-, us, e, -, -⟩ := lexV_toks hts
      rw [e]; simp
    have HCT : Hid (∀ i (hi : i + 1 < ts.length), ts[i].pos ≤ (sl s).length ∧ ((∃ ms, parseV ((sl s).take ts[i].pos) = .ok ms ∧ ms ≠ []) ∨ parseV ((sl s).take ts[i].pos) = .error (ts[i].pos, 110))) := cut_of hts hp
    rw [sl_len] at HCT
    clear hp hts
    by_cases hbig : 60 < ts.length
    · have hb : (60 : Int) < (ts.length : Int) := by omega
      clear HCT
      go_enter Tryz.func3, Tryz.ntmps3
      go_wp2_with fail
      refine C0.mono ?_
      rintro e w1 ⟨vt, vp, rfl, -, -, K1⟩
      clear C0
      go_wp2_with fail
      refine (HLX.out _ (HT.out.grown (by assumption))).mono ?_
      rintro e w2 ⟨v2, rfl, O2, K2⟩
      have G2 := grown_trans K1 K2
      obtain ⟨g, cap, rfl, -⟩ := toks_of O2 hpos
      clear HLX K1 K2 O2
      go_wp2_with fail
      refine (awake11_any _ (HT.out.grown (by assumption))).mono ?_
      rintro e w3 ⟨rfl, K3⟩
      go_wp2
      go_ret
      exact ⟨rfl, grown_trans G2 K3⟩
    have hb : ¬ (60 : Int) < (ts.length : Int) := by omega
    have hsm : ts.length ≤ 60 := by omega
    clear hbig
    go_enter Tryz.func3, Tryz.ntmps3
    go_wp2_with fail
    refine C0.mono ?_
    rintro e w1 ⟨vt, vp, rfl, -, -, K1⟩
    clear C0
    go_wp2_with fail
    refine (HLX.out _ (HT.out.grown (by assumption))).mono ?_
    rintro e w2 ⟨v2, rfl, O2, K2⟩
    have HG2 : Hid (w.grownBy w2 none) := grown_trans K1 K2
    obtain ⟨g, cap, rfl, -⟩ := toks_of O2 hpos
    have HO : Hid (TOwns w2 w1.heap.size (.slice (some ⟨g, 0, none⟩) ts.length cap) ts) := O2
    clear HLX K1 K2 O2
    obtain ⟨L, hL⟩ : ∃ L, ts.length = L := ⟨_, rfl⟩
    have HL : Hid (ts.length = L) := hL
    rw [hL] at hb hsm hpos HO ⊢
    clear hL
    go_upto_region 6 with fail
    go_loopw [10] (fun x wr => ∃ i : Nat, i < L ∧ x = .int .i64 i ∧ Hid (w2.grownBy wr none)) (fun x _ => L - (intOf x).toNat)
    case atStart => exact ⟨0, hpos, rfl, World.grownBy.refl _ _⟩
    case round =>
      obtain ⟨i, hi1, rfl, HW⟩ := hrel
      have hw1 : IntKind.i64.wrap ((i : Int) + 1) = (i : Int) + 1 := by rw [IntKind.wrap_i64]; omega
      have z0 : (0 : Int) ≤ (i : Int) := by omega
      by_cases hend : i + 1 < L
      · have q1 : (i : Int) + 1 < (L : Int) := by omega
        have q3 : (i : Int) < (L : Int) := by omega
        have OW : TOwns wr w1.heap.size (.slice (some ⟨g, 0, none⟩) ts.length cap) ts := by
          have := owns_keptNone HO.out HW.out
          rw [← HL.out] at this
          exact this
        obtain ⟨g', cap', hv, hc⟩ := toks_of OW (by rw [HL.out]; exact hpos)
        simp only [Value.slice.injEq, Option.some.injEq, Addr.mk.injEq, and_true, true_and] at hv
        obtain ⟨rfl, rfl⟩ := hv
        have c1 := hc i (by rw [HL.out]; exact hi1)
        obtain ⟨hle, hcase⟩ := HCT.out i (by rw [HL.out]; exact hend)
        generalize (ts[i]'(by rw [HL.out]; exact hi1)).pos = p at c1 hle hcase
        have hsl : sl (s.extract 0 p) = (sl s).take p := by rw [sl_extract]; simp
        have hsz : (s.extract 0 p).size = p := by rw [← sl_len, hsl, List.length_take, sl_len]; omega
        have CX := pparse_any (s.extract 0 p) (by omega) wr (HT.out.grown (grown_trans HG2.out HW.out))
        rw [hsl] at CX
        have y1 : (0 : Int) ≤ (p : Int) := by omega
        have y2 : (p : Int) ≤ (s.size : Int) := by omega
        clear OW hc hsl
        rcases hcase with ⟨ms, h1, h2⟩ | h1
        · rw [h1] at CX
          simp only [prP, prE, prN] at CX
          have hml : 0 < ms.length := List.length_pos_iff.2 h2
          go_wp2_with fail
          refine CX.mono ?_
          rintro e w3 ⟨v3, v4, rfl, O3, Z3, K3⟩
          obtain ⟨g3, cap3, rfl, -⟩ := NOwns.nodes O3 (by rw [List.length_map]; exact hml)
          obtain ⟨pa, pc, rfl, -, -⟩ := cv_of_row Z3
          have HW3 : Hid (w2.grownBy w3 none) := grown_trans HW.out K3
          rw [List.length_map, List.length_map]
          have e1 : ((ms.length : Int) == (ms.length : Int)) = true := by simp
          have e2 : ((ms.length : Int) == 0) = false := by simp; omega
          have e3 : ¬ (ms.length : Int) = 0 := by omega
          clear CX O3 Z3 K3 HW
          go_wp2
          go_roundw
          case rel => exact ⟨i + 1, by omega, by go_num, HW3.out⟩
          case measure => simp [intOf]; omega
        · rw [h1] at CX
          simp only [prP, prE, prN] at CX
          go_wp2_with fail
          refine CX.mono ?_
          rintro e w3 ⟨v3, v4, rfl, O3, Z3, K3⟩
          have HW3 : Hid (w2.grownBy w3 none) := grown_trans HW.out K3
          have e1 : ((p : Int) == (p : Int)) = true := by simp
          clear CX O3 Z3 K3 HW
          go_wp2
          go_roundw
          case rel => exact ⟨i + 1, by omega, by go_num, HW3.out⟩
          case measure => simp [intOf]; omega
      · have q1 : ¬ (i : Int) + 1 < (L : Int) := by omega
        have G := grown_trans HG2.out HW.out
        clear HW
        go_wp2_with fail
        refine (awake11_any _ (HT.out.grown (by assumption))).mono ?_
        rintro e w3 ⟨rfl, K3⟩
        go_wp2
        go_ret
        exact ⟨rfl, grown_trans G K3⟩

set_option maxRecDepth 100000 in
theorem lifted (os : Os) (started : os.Started) (H : Type) (enc : TypeId × Value → H) (F : Stop.Interp) :
    ReturnsInHanded {} Tryz.checked os 3 .any ((OpenSpec.ofChange Rows.parseCutsSpec).preRow enc Tryz.prog Tryz.f3 Rows.parseCutsRow.domain false Rows.parseCutsRow.laid) (((OpenSpec.ofChange Rows.parseCutsSpec).at F).post enc Tryz.prog Tryz.f3 false true false false) := by
  have hx : DataW.whole enc Tryz.prog ((laidWorld os).forCall (fun _ _ => 0) ⟨#[], #[.string .empty], []⟩).memory Tryz.f3.params.toList Rows.parseCutsSpec.vars false (#[.string .empty] : Array Value).toList 8 = some ([.lit (.string [])], [], []) := by kernel_rfl
  refine returnsInHanded_of_row (C := Tryz.checked) (s := (OpenSpec.ofChange Rows.parseCutsSpec)) own started (by kernel_rfl) Tryz.func3
    (witness_row_atRef (enc := enc) (C := Tryz.checked) false (laidWorld os) #[.string .empty] (World.laidAll_os _ _ _) (by kernel_rfl) (by kernel_rfl) (by kernel_rfl)
      (OpenSpec.preRow_of_cond 8 hx (by kernel_rfl) (fun k hk => by cases hk) (by kernel_rfl) (laid_met os _))) ?_
  intro W base args ds gs before hval0 hW hcnd hcond hsz0 hL hsh _
  have hsz : (DataW.weightsEach Tryz.prog (Tryz.f3.params.toList ++ Rows.parseCutsSpec.plain.varTypes Tryz.prog) (ds ++ gs)).all (· ≤ reachBytes) = true := hsz0
  have T : TabB W := laid_tabB hL hsh
  have hval : ∀ (j : Nat) t v, Tryz.f3.params[j]? = some t → args[j]? = some v → Value.okWide Tryz.prog W .any base t v := hval0
  have hW' := hW
  obtain ⟨p, q, hA0, hV, rfl, hfz, hnd⟩ := hW
  have hA : DataW.TrodAll enc Tryz.prog W 0 (fun _ => true) true Tryz.f3.params.toList args.toList ds p := hA0
  rw [Tryz.params3] at hA hval hsz
  obtain ⟨v0, vs0, d0, ds0, p0, q0, hargs, rfl, rfl, h0, r0⟩ := trodAll_cons hA
  obtain ⟨rfl, rfl, rfl⟩ := trodAll_nil r0
  obtain rfl : args = #[v0] := by cases args; simp_all
  obtain ⟨rfl, rfl⟩ := trodVars_none hV
  obtain ⟨s0, rfl, rfl, rfl, hs0⟩ := open_string Tryz.underlying9 (hval 0 9 v0 rfl rfl) h0
  have hlen0 : s0.size ≤ 140737488351232 := by
    have h := sized_string hsz (j := 0) (t := 9) rfl rfl
    unfold reachBytes at h
    have e : s0.data.toList.length = s0.size := by rw [Array.length_toList]; rfl
    omega
  clear hA0 hval0
  refine (walk s0 W hlen0 T).mono fun e W' ⟨he, hg⟩ => ?_
  subst he
  have bel : Below W.heap.size W W' := (Below.refl _ _).grown hg (Nat.le_refl _) (by simp)
  exact ⟨_, rfl, _, _, _, [], _, [], hW', trodAll_mk1 (shut_bool Tryz.underlying4 _), (trodAll_cons_mk (shut_string Tryz.underlying9 hs0) trodAll_mk0), rfl, bel.frame _, fun h => by cases h⟩

theorem over : Rows.ParseCutsSaid :=
  OpenClaim.holds_of_cond 3 Tryz.f3 rfl rfl rfl rfl rfl rfl rfl ⟨rfl, rfl, rfl, rfl, rfl⟩ rfl rfl rfl rfl rfl (by kernel_rfl) Tryz.func3 (by kernel_rfl)
    (of_decide_eq_true (by kernel_rfl)) (by unfold Func.isWrapper; first | (rw [if_pos (by decide +kernel)]; kernel_rfl) | (rw [if_neg (by decide +kernel)]; exact ⟨rfl, rfl⟩))
    (fun os started H enc _ F => by rw [OpenClaim.pre_eq_preRow]; exact lifted os started H enc F)

theorem plain (f : FuncId) (fn : Func) (hf : Tryz.pinned.checked.prog.funcNamed "riddle/riddlelaw11.ParseCuts" = some f) (hfn : Tryz.pinned.checked.prog.funcs[f]? = some fn) :
    true = Tryz.pinned.checked.prog.looks [] ∧ ∀ (j : Nat) t, fn.params[j]? = some t → Tryz.pinned.checked.prog.wantsStandIn t = false := by
  obtain rfl : f = 3 := Option.some.inj ((show Tryz.prog.funcNamed "riddle/riddlelaw11.ParseCuts" = some 3 by kernel_rfl).symm.trans hf) |>.symm
  obtain rfl : fn = Tryz.f3 := (Option.some.inj (Tryz.func3.symm.trans hfn)).symm
  refine ⟨by kernel_rfl, fun j t ht => ?_⟩
  rw [Tryz.params3] at ht
  have ht2 := Array.mem_of_getElem? ht
  simp only [List.mem_toArray, List.mem_cons, List.not_mem_nil, or_false] at ht2
  rcases ht2 with rfl
  · exact (show Tryz.prog.wantsStandIn 9 = false by kernel_rfl)

theorem card : Rows.ParseCutsCardSaid :=
  Claim7.holds_tied_plain_at .later [] _ _ _ _ over (fun _ h => by cases h) (by kernel_rfl) (fun _ h => by cases h) parseCuts_row_tie rfl ⟨rfl, rfl⟩ (by kernel_rfl) rfl plain (by kernel_rfl)

end parseCuts

theorem parseCuts_holds : Rows.ParseCutsCardSaid := parseCuts.card
#print axioms parseCuts_holds

end Go.Proofs.YtbdmpjnlgdahmabGreatDoor
