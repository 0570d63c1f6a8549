/-
  For every string (of such size as the form itself says of each argument) riddlelaw10.LexAlone returns true and leaves what was there as it was: no condition of ours.
-/
import Derived.Test.YthmfpodibgheiaaDoorLexK
import Derived.Test.YthmfpodibgheiaaDoorOpen
import Derived.Test.YthmfpodibgheiaaDoorLkL
import Derived.BigQuiet
namespace Go.Proofs.YthmfpodibgheiaaDoor
open Go.ChangeShapes Go.WideShapes Go.ChangeAt Go.RowKit
open Go.ChangeMaps (open_string shut_string)
set_option maxRecDepth 100000
namespace lexAlone

set_option maxRecDepth 100000 in
set_option maxHeartbeats 8000000 in
theorem walk (s : ByteArray) (w : World) (hs : s.size ≤ 140737488351232) (T : Tab w) :
    Calls Tryd.prog 5 #[.string s] w fun e w' => e = .returned (.bool true) ∧ w.grownBy w' none := by
  have HT : Hid (Tab w) := T
  clear T
  have C0 := lex_any s (by omega) w HT.out
  cases hx : lexV (sl s) with
  | error x =>
    rw [hx] at C0
    simp only [lexP, lexE, lexT] at C0
    have hz := lexE_err hx
    clear hx
    generalize x.2 = er at *
    go_enter Tryd.func5, Tryd.ntmps5
    go_wp2_with fail
    refine C0.mono ?_
    rintro e w1 ⟨v1, rfl, O1, K1⟩
    clear C0 O1
    go_wp2_with fail
    refine (awake10_any _ (HT.out.grown (by assumption))).mono ?_
    rintro e w2 ⟨rfl, K2⟩
    go_wp2
    go_ret
    exact ⟨rfl, grown_trans K1 K2⟩
  | ok ts =>
    rw [hx] at C0
    simp only [lexP, lexE, lexT] at C0
    obtain ⟨-, us, e, hul, hu⟩ := lexV_toks hx
    have htl : ts.length = us.length + 1 := by rw [e]; simp
    have HU : Hid (∀ i (hi : i < us.length) (hi' : i < ts.length), ts[i].text ≠ [] ∧ tokV ts[i].text = .ok (ts[i].kind, ts[i].text, ts[i].num) ∧ ts[i].text.length ≤ 65536) := fun i hi hi' => by
      have e2 : ts[i] = us[i] := by
        have : ts[i]? = us[i]? := by rw [e, List.getElem?_append_left hi]
        rw [List.getElem?_eq_getElem hi', List.getElem?_eq_getElem hi] at this
        exact Option.some.inj this
      rw [e2]
      obtain ⟨a, b, c, -⟩ := hu us[i] (List.getElem_mem hi)
      exact ⟨a, b, c⟩
    clear hx e hu
    go_enter Tryd.func5, Tryd.ntmps5
    go_wp2_with fail
    refine C0.mono ?_
    rintro e w1 ⟨v1, rfl, O1, K1⟩
    clear C0
    obtain ⟨g, cap, rfl, -⟩ := O1.toks (by omega)
    have HO : Hid (TOwns w1 w.heap.size (.slice (some ⟨g, 0, none⟩) ts.length cap) ts) := O1
    have HK1 : Hid (w.grownBy w1 none) := K1
    rw [htl] at HO ⊢
    clear O1 K1
    go_upto_region 5 with fail
    go_loopw [6] (fun x wr => ∃ i : Nat, i ≤ us.length ∧ i ≤ 200 ∧ x = .int .i64 i ∧ Hid (w1.grownBy wr none)) (fun x _ => 200 - (intOf x).toNat)
    case atStart => exact ⟨0, Nat.zero_le _, Nat.zero_le _, rfl, World.grownBy.refl _ _⟩
    case round =>
      obtain ⟨i, hi1, hi2, rfl, HW⟩ := hrel
      have hw1 : IntKind.i64.wrap ((i : Int) + 1) = (i : Int) + 1 := by rw [IntKind.wrap_i64]; omega
      have z0 : (0 : Int) ≤ (i : Int) := by omega
      by_cases hend : i < us.length ∧ i < 200
      · obtain ⟨h1, h2⟩ := hend
        have q1 : (i : Int) + 1 < ((us.length + 1 : Nat) : Int) := by omega
        have q2 : (i : Int) < 200 := by omega
        have q3 : (i : Int) < ((us.length + 1 : Nat) : Int) := by omega
        obtain ⟨hne, htk, hl3⟩ := HU.out i h1 (by omega)
        have OW : TOwns wr w.heap.size (.slice (some ⟨g, 0, none⟩) ts.length cap) ts := by
          have := owns_keptNone HO.out HW.out
          rw [← htl] at this
          exact this
        obtain ⟨g', cap', hv, hc⟩ := OW.toks (by omega)
        simp only [Value.slice.injEq, Option.some.injEq, Addr.mk.injEq, and_true, true_and] at hv
        obtain ⟨rfl, rfl⟩ := hv
        obtain ⟨c0, c1, c2, c3⟩ := hc i (by omega)
        obtain ⟨y, hy⟩ : ∃ y, ts[i]'(by omega) = y := ⟨_, rfl⟩
        rw [hy] at c0 c1 c2 c3 hne htk hl3
        obtain ⟨q, p, t, n⟩ := y
        simp only at c0 c1 c2 c3 hne htk hl3
        have hla := lex_alone htk hl3
        have CX := lex_any ⟨t.toArray⟩ (by rw [← sl_len, sl_str]; omega) wr (HT.out.grown (grown_trans HK1.out HW.out))
        rw [sl_str, hla] at CX
        simp only [lexP, lexE, lexT] at CX
        have hts : (⟨t.toArray⟩ : ByteArray).size = t.length := by rw [← sl_len, sl_str]
        have HC : Hid (wr.cell? ⟨g, i * 4, none⟩ = some (.int .i64 (q : Int)) ∧ wr.cell? ⟨g, i * 4 + 1, none⟩ = some (.int .i64 (p : Int)) ∧ wr.cell? ⟨g, i * 4 + 2, none⟩ = some (str t) ∧ wr.cell? ⟨g, i * 4 + 3, none⟩ = some (.int .u32 (n : Int))) := ⟨c0, c1, c2, c3⟩
        clear OW hc hy htk hla hne c0 c1 c3
        go_wp2_with fail
        refine CX.mono ?_
        rintro e w2 ⟨v2, rfl, O2, K2⟩
        obtain ⟨g2, cap2, rfl, hc2⟩ := O2.toks (by simp)
        obtain ⟨d0, d1, d2, d3⟩ := hc2 0 (by simp)
        obtain ⟨f0, f1, f2, f3⟩ := hc2 1 (by simp)
        simp only [List.getElem_cons_zero, List.getElem_cons_succ, Nat.zero_mul, Nat.zero_add, Nat.one_mul] at d0 d1 d2 d3 f0 f1 f2 f3
        have HD : Hid ((w2.cell? ⟨g2, 0, none⟩ = some (.int .i64 (q : Int)) ∧ w2.cell? ⟨g2, 1, none⟩ = some (.int .i64 0) ∧ w2.cell? ⟨g2, 2, none⟩ = some (str t) ∧ w2.cell? ⟨g2, 3, none⟩ = some (.int .u32 (n : Int))) ∧ (w2.cell? ⟨g2, 4, none⟩ = some (.int .i64 0) ∧ w2.cell? ⟨g2, 5, none⟩ = some (.int .i64 (t.length : Int)) ∧ w2.cell? ⟨g2, 6, none⟩ = some (str []) ∧ w2.cell? ⟨g2, 7, none⟩ = some (.int .u32 0))) := ⟨⟨d0, d1, d2, d3⟩, f0, f1, f2, f3⟩
        have HW2 : Hid (w1.grownBy w2 none) := grown_trans HW.out K2
        obtain ⟨c0, c1, c2', c3⟩ := HC.out
        have c0 := K2.cell c0 (by simp)
        have c1 := K2.cell c1 (by simp)
        have c2 := K2.cell c2' (by simp)
        have c3 := K2.cell c3 (by simp)
        clear CX O2 K2 hc2 d0 d1 d2 d3 f0 f1 f2 f3 HW c2'
        rw [show ([(⟨q, 0, t, n⟩ : Tk), ⟨0, t.length, [], 0⟩] : List Tk).length = 2 from rfl]
        go_upto_region 10 with fail
        have VA := VAt.alloc w2 32 #[.int .i64 (q : Int), .int .i64 0, str t, .int .u32 (n : Int)]
        have KV := World.grownBy_alloc w2 (.cells #[.int .i64 (q : Int), .int .i64 0, str t, .int .u32 (n : Int)] 32) none
        have HW3 : Hid (w1.grownBy (w2.alloc (.cells #[.int .i64 (q : Int), .int .i64 0, str t, .int .u32 (n : Int)] 32)) none) := grown_trans HW2.out KV
        have e2 := KV.cell c2 (by simp)
        have d0 := KV.cell HD.out.1.1 (by simp)
        have d1 := KV.cell HD.out.1.2.1 (by simp)
        have d2 := KV.cell HD.out.1.2.2.1 (by simp)
        have d3 := KV.cell HD.out.1.2.2.2 (by simp)
        have f0 := KV.cell HD.out.2.1 (by simp)
        have f1 := KV.cell HD.out.2.2.1 (by simp)
        have f2 := KV.cell HD.out.2.2.2.1 (by simp)
        have f3 := KV.cell HD.out.2.2.2.2 (by simp)
        clear c0 c1 c2 c3 HD HC HW2 KV
        generalize w2.alloc (.cells #[.int .i64 (q : Int), .int .i64 0, str t, .int .u32 (n : Int)] 32) = w3 at *
        generalize w2.heap.size = V at *
        have k0 : w3.cell? ⟨V, 0, none⟩ = some (.int .i64 (q : Int)) := VA.cell 0
        have k1 : w3.cell? ⟨V, 1, none⟩ = some (.int .i64 0) := VA.cell 1
        have k2 : w3.cell? ⟨V, 2, none⟩ = some (str t) := VA.cell 2
        have k3 : w3.cell? ⟨V, 3, none⟩ = some (.int .u32 (n : Int)) := VA.cell 3
        clear VA
        have f2' : w3.cell? ⟨g2, 6, none⟩ = some (.string ⟨#[]⟩) := f2
        clear f2
        generalize (⟨t.toArray⟩ : ByteArray) = tb at *
        go_quiet (fail)
        go_wp2
        go_roundw
        case rel => exact ⟨i + 1, by omega, by omega, by go_num, grown_trans HW3.out (grown_drewN w3 _ none)⟩
        case measure => simp [intOf]; omega
      · have hcase : (¬ (i : Int) + 1 < ((us.length + 1 : Nat) : Int)) ∨ ((i : Int) + 1 < ((us.length + 1 : Nat) : Int) ∧ ¬ (i : Int) < 200) := by omega
        have G := grown_trans HK1.out HW.out
        clear HW HO HU hend
        rcases hcase with q1 | ⟨q1, q2⟩
        all_goals
          go_wp2_with fail
          refine (awake10_any _ (HT.out.grown (by assumption))).mono ?_
          rintro e w3 ⟨rfl, K3⟩
          go_wp2
          go_ret
          exact ⟨rfl, grown_trans G K3⟩

set_option maxRecDepth 100000 in
theorem lifted (os : Os) (started : os.Started) (H : Type) (enc : TypeId × Value → H) (F : Stop.Interp) :
    ReturnsInHanded {} Tryd.checked os 5 .any ((OpenSpec.ofChange Rows.lexAloneSpec).preRow enc Tryd.prog Tryd.f5 Rows.lexAloneRow.domain false Rows.lexAloneRow.laid) (((OpenSpec.ofChange Rows.lexAloneSpec).at F).post enc Tryd.prog Tryd.f5 false true false false) := by
  have hx : DataW.whole enc Tryd.prog ((laidWorld os).forCall (fun _ _ => 0) ⟨#[], #[.string .empty], []⟩).memory Tryd.f5.params.toList Rows.lexAloneSpec.vars false (#[.string .empty] : Array Value).toList 8 = some ([.lit (.string [])], [], []) := by kernel_rfl
  refine returnsInHanded_of_row (C := Tryd.checked) (s := (OpenSpec.ofChange Rows.lexAloneSpec)) own started (by kernel_rfl) Tryd.func5
    (witness_row_atRef (enc := enc) (C := Tryd.checked) false (laidWorld os) #[.string .empty] (World.laidAll_os _ _ _) (by kernel_rfl) (by kernel_rfl) (by kernel_rfl)
      (OpenSpec.preRow_of_cond 8 hx (by kernel_rfl) (fun k hk => by cases hk) (by kernel_rfl) (laid_met os _))) ?_
  intro W base args ds gs before hval0 hW hcnd hcond hsz0 hL hsh _
  have hsz : (DataW.weightsEach Tryd.prog (Tryd.f5.params.toList ++ Rows.lexAloneSpec.plain.varTypes Tryd.prog) (ds ++ gs)).all (· ≤ reachBytes) = true := hsz0
  have T : Tab W := laid_tab hL hsh
  have hval : ∀ (j : Nat) t v, Tryd.f5.params[j]? = some t → args[j]? = some v → Value.okWide Tryd.prog W .any base t v := hval0
  have hW' := hW
  obtain ⟨p, q, hA0, hV, rfl, hfz, hnd⟩ := hW
  have hA : DataW.TrodAll enc Tryd.prog W 0 (fun _ => true) true Tryd.f5.params.toList args.toList ds p := hA0
  rw [Tryd.params5] at hA hval hsz
  obtain ⟨v0, vs0, d0, ds0, p0, q0, hargs, rfl, rfl, h0, r0⟩ := trodAll_cons hA
  obtain ⟨rfl, rfl, rfl⟩ := trodAll_nil r0
  obtain rfl : args = #[v0] := by cases args; simp_all
  obtain ⟨rfl, rfl⟩ := trodVars_none hV
  obtain ⟨s0, rfl, rfl, rfl, hs0⟩ := open_string Tryd.underlying9 (hval 0 9 v0 rfl rfl) h0
  have hlen0 : s0.size ≤ 140737488351232 := by
    have h := sized_string hsz (j := 0) (t := 9) rfl rfl
    unfold reachBytes at h
    have e : s0.data.toList.length = s0.size := by rw [Array.length_toList]; rfl
    omega
  clear hA0 hval0
  refine (walk s0 W hlen0 T).mono fun e W' ⟨he, hg⟩ => ?_
  subst he
  have bel : Below W.heap.size W W' := (Below.refl _ _).grown hg (Nat.le_refl _) (by simp)
  exact ⟨_, rfl, _, _, _, [], _, [], hW', trodAll_mk1 (shut_bool Tryd.underlying4 _), (trodAll_cons_mk (shut_string Tryd.underlying9 hs0) trodAll_mk0), rfl, bel.frame _, fun h => by cases h⟩

theorem over : Rows.LexAloneSaid :=
  OpenClaim.holds_of_cond 5 Tryd.f5 rfl rfl rfl rfl rfl rfl rfl ⟨rfl, rfl, rfl, rfl, rfl⟩ rfl rfl rfl rfl rfl (by kernel_rfl) Tryd.func5 (by kernel_rfl)
    (of_decide_eq_true (by kernel_rfl)) (by unfold Func.isWrapper; first | (rw [if_pos (by decide +kernel)]; kernel_rfl) | (rw [if_neg (by decide +kernel)]; exact ⟨rfl, rfl⟩))
    (fun os started H enc _ F => by rw [OpenClaim.pre_eq_preRow]; exact lifted os started H enc F)

theorem plain (f : FuncId) (fn : Func) (hf : Tryd.pinned.checked.prog.funcNamed "riddle/riddlelaw10.LexAlone" = some f) (hfn : Tryd.pinned.checked.prog.funcs[f]? = some fn) :
    true = Tryd.pinned.checked.prog.looks [] ∧ ∀ (j : Nat) t, fn.params[j]? = some t → Tryd.pinned.checked.prog.wantsStandIn t = false := by
  obtain rfl : f = 5 := Option.some.inj ((show Tryd.prog.funcNamed "riddle/riddlelaw10.LexAlone" = some 5 by kernel_rfl).symm.trans hf) |>.symm
  obtain rfl : fn = Tryd.f5 := (Option.some.inj (Tryd.func5.symm.trans hfn)).symm
  refine ⟨by kernel_rfl, fun j t ht => ?_⟩
  rw [Tryd.params5] at ht
  have ht2 := Array.mem_of_getElem? ht
  simp only [List.mem_toArray, List.mem_cons, List.not_mem_nil, or_false] at ht2
  rcases ht2 with rfl
  · exact (show Tryd.prog.wantsStandIn 9 = false by kernel_rfl)

theorem card : Rows.LexAloneCardSaid :=
  Claim7.holds_tied_plain_at .later [] _ _ _ _ over (fun _ h => by cases h) (by kernel_rfl) (fun _ h => by cases h) lexAlone_row_tie rfl ⟨rfl, rfl⟩ (by kernel_rfl) rfl plain (by kernel_rfl)

end lexAlone

theorem lexAlone_holds : Rows.LexAloneCardSaid := lexAlone.card
#print axioms lexAlone_holds

end Go.Proofs.YthmfpodibgheiaaDoor
