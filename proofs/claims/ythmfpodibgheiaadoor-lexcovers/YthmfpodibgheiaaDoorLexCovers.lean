/-
  For every string (of such size as the form itself says of each argument) riddlelaw10.LexCovers returns true and leaves what was there as it was: no condition of ours.
-/
import Derived.Test.YthmfpodibgheiaaDoorLexK
import Derived.Test.YthmfpodibgheiaaDoorOpen
import Derived.Test.YthmfpodibgheiaaDoorLkL
import Derived.BigQuiet
namespace Go.Proofs.YthmfpodibgheiaaDoor
open Go.ChangeShapes Go.WideShapes Go.ChangeAt Go.RowKit
open Go.ChangeMaps (open_string shut_string)
set_option maxRecDepth 100000
namespace lexCovers

/-- What stands at a place behind all blanks. -/
theorem cov_step {s : ByteArray} {j i : Nat} {ts : List Tk} (hj : j ≤ s.size) (hi : i < ts.length) (hb : ∀ h : j < s.size, blankB s[j] = false) (h : lexR j ((sl s).drop j) = .ok (ts.drop i)) :
    ∃ q t n, ts[i] = ⟨q, j, t, n⟩ ∧ j + t.length ≤ s.size ∧ sl (s.extract j (j + t.length)) = t ∧ ((t.length = 0 ∧ i + 1 = ts.length ∧ j + t.length = s.size) ∨ (t.length ≠ 0 ∧ i + 1 < ts.length ∧ lexR (j + t.length) ((sl s).drop (j + t.length)) = .ok (ts.drop (i + 1)))) := by
  have hd : ts.drop i = ts[i] :: ts.drop (i + 1) := List.drop_eq_getElem_cons hi
  by_cases hlt : j < s.size
  · have hD := sl_drop s j hlt
    rw [hD] at h
    cases ht : tokV (s[j] :: (sl s).drop (j + 1)) with
    | error e => rw [lexR_err j (hb hlt) ht] at h; cases h
    | ok x =>
      obtain ⟨q, t, n⟩ := x
      rw [lexR_tok j (hb hlt) ht] at h
      have hok := tok_ok ht
      have hl := List.length_pos_iff.2 hok.1
      rw [← hD, List.drop_drop] at h
      rw [← hD] at hok
      have hle := hok.2.2.1
      rw [List.length_drop, sl_len] at hle
      split at h
      · cases h
      · rename_i ts' h'
        simp only [Except.ok.injEq] at h
        rw [hd] at h
        simp only [List.cons.injEq] at h
        refine ⟨q, t, n, h.1.symm, by omega, ?_, .inr ⟨by omega, ?_, ?_⟩⟩
        · rw [sl_extract, Nat.add_sub_cancel_left]
          exact hok.2.1.symm
        · obtain ⟨us, e, -⟩ := lexR_end _ _ _ _ (Nat.le_refl _) h'
          have hl2 : ts'.length = us.length + 1 := by rw [e]; simp
          have hl3 : (ts.drop (i + 1)).length = ts'.length := by rw [h.2]
          rw [List.length_drop] at hl3
          omega
        · rw [h', h.2]
  · obtain rfl : j = s.size := by omega
    rw [List.drop_eq_nil_of_le (by rw [sl_len]; exact Nat.le_refl _), lexR_nil, hd] at h
    simp only [Except.ok.injEq, List.cons.injEq] at h
    refine ⟨0, [], 0, h.1.symm, by simp, ?_, .inl ⟨rfl, ?_, by simp⟩⟩
    · rw [sl_extract]
      simp
    · have hl3 : (ts.drop (i + 1)).length = 0 := by rw [← h.2]; rfl
      rw [List.length_drop] at hl3
      omega

set_option maxRecDepth 100000 in
set_option maxHeartbeats 8000000 in
theorem walk (s : ByteArray) (w : World) (hs : s.size ≤ 140737488351232) (T : Tab w) :
    Calls Tryd.prog 4 #[.string s] w fun e w' => e = .returned (.bool true) ∧ w.grownBy w' none := by
  have HT : Hid (Tab w) := T
  clear T
  have C0 := lex_any s (by omega) w HT.out
  cases hx : lexV (sl s) with
  | error x =>
    rw [hx] at C0
    simp only [lexP, lexE, lexT] at C0
    have hz := lexE_err hx
    clear hx
    generalize x.2 = er at *
    go_enter Tryd.func4, Tryd.ntmps4
    go_wp2_with fail
    refine C0.mono ?_
    rintro e w1 ⟨v1, rfl, O1, K1⟩
    obtain ⟨a1, k1, rfl, -⟩ := O1.items
    rw [show ([] : List Tk).length = 0 from rfl]
    clear C0 O1
    go_wp2_with fail
    refine (awake10_any _ (HT.out.grown (by assumption))).mono ?_
    rintro e w2 ⟨rfl, K2⟩
    go_wp2
    go_ret
    exact ⟨rfl, grown_trans K1 K2⟩
  | ok ts =>
    rw [hx] at C0
    simp only [lexP, lexE, lexT] at C0
    obtain ⟨hsl, us, htse, hul, -⟩ := lexV_toks hx
    rw [sl_len] at hsl
    have hlr : lexR 0 (sl s) = .ok ts := by
      unfold lexV at hx
      rw [if_neg (by rw [sl_len]; omega)] at hx
      exact hx
    have HLR : Hid (lexR 0 (sl s) = .ok ts) := hlr
    have htl : ts.length = us.length + 1 := by rw [htse]; simp
    have HLAST : Hid (∀ h : us.length < ts.length, ts[us.length] = ⟨0, s.size, [], 0⟩) := fun h => by
      have : ts[us.length]? = some ⟨0, s.size, [], 0⟩ := by rw [htse, sl_len]; simp
      rw [List.getElem?_eq_getElem h] at this
      exact Option.some.inj this
    clear hx hlr htse
    go_enter Tryd.func4, Tryd.ntmps4
    go_wp2_with fail
    refine C0.mono ?_
    rintro e w1 ⟨v1, rfl, O1, K1⟩
    clear C0
    obtain ⟨g, cap, rfl, hcc⟩ := O1.toks (by omega)
    have HCC : Hid (∀ i (hi : i < ts.length), w1.cell? ⟨g, i * 4, none⟩ = some (.int .i64 (ts[i].kind : Int)) ∧ w1.cell? ⟨g, i * 4 + 1, none⟩ = some (.int .i64 (ts[i].pos : Int)) ∧ w1.cell? ⟨g, i * 4 + 2, none⟩ = some (str ts[i].text) ∧ w1.cell? ⟨g, i * 4 + 3, none⟩ = some (.int .u32 (ts[i].num : Int))) := hcc
    have HK1 : Hid (w.grownBy w1 none) := K1
    have q0 := HCC.out us.length (by omega)
    rw [HLAST.out (by omega)] at q0
    obtain ⟨b0, b1, b2, b3⟩ := q0
    simp only at b0 b1 b2 b3
    have b2' : w1.cell? ⟨g, us.length * 4 + 2, none⟩ = some (.string ⟨#[]⟩) := b2
    clear O1 K1 hcc b2
    obtain ⟨m, hm⟩ : ∃ m, us.length = m := ⟨_, rfl⟩
    rw [hm] at b0 b1 b2' b3 htl hul HLAST
    obtain ⟨L, hL⟩ : ∃ L, ts.length = L := ⟨_, rfl⟩
    rw [hL] at htl ⊢
    have HLm : Hid (ts.length = L ∧ L = m + 1) := ⟨hL, htl⟩
    have hw1 : IntKind.i64.wrap ((L : Int) - 1) = (m : Int) := by rw [IntKind.wrap_i64]; omega
    have hLb : L ≤ 65537 := by omega
    have z1 : ((L : Int) == 0) = false := by rw [beq_eq_false_iff_ne]; omega
    have z2 : (0 : Int) ≤ (m : Int) := by omega
    have z3 : (m : Int) < (L : Int) := by omega
    clear hL htl hm
    go_upto_region 8 with fail
    clear b0 b1 b2' b3 HLAST
    go_loopw [6, 7] (fun x y wr => ∃ (a i : Nat), a ≤ s.size ∧ i ≤ L ∧ x = .int .i64 a ∧ y = .int .i64 i ∧ Hid ((i < L ∧ lexR a ((sl s).drop a) = .ok (ts.drop i)) ∨ (i = L ∧ a = s.size)) ∧ Hid (w1.grownBy wr none)) (fun _ y _ => L - (intOf y).toNat)
    case atStart => exact ⟨0, 0, Nat.zero_le _, Nat.zero_le _, rfl, rfl, .inl ⟨by have := HLm.out.2; omega, by rw [List.drop_zero, List.drop_zero]; exact HLR.out⟩, World.grownBy.refl _ _⟩
    case round =>
      clear HLR
      obtain ⟨wo, rfl⟩ : ∃ wo : World, wo = wr := ⟨_, rfl⟩
      obtain ⟨a, i, ha, hi, rfl, rfl, HI, HW⟩ := hrel
      by_cases hlt : i < L
      · have HL0 : Hid (lexR a ((sl s).drop a) = .ok (ts.drop i)) := by
          rcases HI.out with h | h
          · exact h.2
          · omega
        have hil : (i : Int) < (L : Int) := by omega
        have hi0 : (0 : Int) ≤ (i : Int) := by omega
        clear HI
        go_upto_region 10 with fail
        go_loopw [6] (fun x wy => ∃ j : Nat, j ≤ s.size ∧ x = .int .i64 j ∧ Hid (lexR j ((sl s).drop j) = .ok (ts.drop i)) ∧ Hid (w1.grownBy wy none)) (fun x _ => s.size - (intOf x).toNat)
        case atStart => exact ⟨a, ha, rfl, HL0, HW⟩
        case round =>
          clear HL0 HW
          obtain ⟨j, hj, rfl, HJ, HW⟩ := hrel
          have hj0 : (0 : Int) ≤ (j : Int) := by omega
          by_cases hbl : ∃ h : j < s.size, blankB s[j] = true
          · obtain ⟨h1, h2⟩ := hbl
            have h1' : (j : Int) < (s.size : Int) := by omega
            have CB := refblank_any s[j] wr
            rw [h2] at CB
            have HN : Hid (lexR (j + 1) ((sl s).drop (j + 1)) = .ok (ts.drop i)) := by
              show _ = _
              rw [← HJ.out, sl_drop s j h1, lexR_blank j _ h2]
            clear HJ
            go_wp2_with fail
            refine CB.mono ?_
            rintro e w2 ⟨rfl, rfl⟩
            clear CB
            go_wp2
            go_roundw
            case rel => exact ⟨j + 1, by omega, by go_num, HN, HW⟩
            case measure => simp [intOf]; omega
          · have hnb : ∀ h : j < s.size, blankB s[j] = false := fun h => by
              cases hb : blankB s[j] with
              | false => rfl
              | true => exact absurd ⟨h, hb⟩ hbl
            obtain ⟨q, t, n, hti, hjl, hse, hrest⟩ := cov_step hj (by rw [HLm.out.1]; exact hlt) hnb HJ.out
            obtain ⟨-, c1, c2, -⟩ := HCC.out i (by rw [HLm.out.1]; exact hlt)
            rw [hti] at c1 c2
            simp only at c1 c2
            have c1 := HW.out.cell c1 (by simp)
            have c2 := HW.out.cell c2 (by simp)
            have HR : Hid ((t.length = 0 ∧ i + 1 = L ∧ j + t.length = s.size) ∨ (t.length ≠ 0 ∧ i + 1 < L ∧ lexR (j + t.length) ((sl s).drop (j + t.length)) = .ok (ts.drop (i + 1)))) := by
              have := hrest
              rw [HLm.out.1] at this
              exact this
            have hlen : t.length = 0 ∧ i + 1 = L ∨ t.length ≠ 0 := by
              rcases HR.out with h | h
              · exact .inl ⟨h.1, h.2.1⟩
              · exact .inr h.1
            obtain ⟨T, hT⟩ : ∃ T : ByteArray, ⟨t.toArray⟩ = T := ⟨_, rfl⟩
            have hTs : T.size = t.length := by rw [← hT, ← sl_len, sl_str]
            have hex : s.extract j (j + T.size) = T := by
              rw [hTs, ← hT]
              have : Value.string (s.extract j (j + t.length)) = Value.string ⟨t.toArray⟩ := str_of hse
              exact Value.string.inj this
            have c2T : wr.cell? ⟨g, i * 4 + 2, none⟩ = some (.string T) := by rw [← hT]; exact c2
            rw [← hTs] at hjl HR hlen
            clear hrest hse hti HJ HCC hT hTs c2
            generalize hk : T.size = k at *
            have HK : Hid (T.size = k) := hk
            have hw5 : IntKind.i64.wrap ((j : Int) + (k : Int)) = (j : Int) + (k : Int) := by rw [IntKind.wrap_i64]; omega
            have y1 : decide ((s.size : Int) < (j : Int) + (k : Int)) = false := decide_eq_false (by omega)
            have y2 : (j : Int) ≤ (j : Int) + (k : Int) := by omega
            have y3 : (j : Int) + (k : Int) ≤ (s.size : Int) := by omega
            have y4 : ((j : Int) != (j : Int)) = false := by simp
            have HNX : Hid ((k = 0 ∧ i + 1 = L) ∨ k ≠ 0) := hlen
            clear hlen
            by_cases hjs : j < s.size
            · have CB := refblank_any s[j] wr
              rw [hnb hjs] at CB
              have hjs' : (j : Int) < (s.size : Int) := by omega
              clear hbl hnb
              go_wp2_with fail
              refine CB.mono ?_
              rintro e w2 ⟨rfl, rfl⟩
              clear CB
              go_upto_region 12 with fail
              have HW9 : Hid (∀ m, w1.grownBy (wr.drewN m) none) := fun m => grown_trans HW.out (grown_drewN wr m none)
              clear HW
              have hk0 : ((k : Int) == 0) = false := by
                rw [beq_eq_false_iff_ne]
                rcases HR.out with h | h
                · omega
                · omega
              go_quiet (fail)
              go_wp2
              go_roundw
              case rel => exact ⟨j + k, i + 1, by omega, by omega, by go_num, by go_num, by
                show (_ ∨ _)
                rcases HR.out with h | h
                · exact .inr ⟨h.2.1, h.2.2⟩
                · exact .inl ⟨h.2.1, h.2.2⟩, HW9.out _⟩
              case measure => simp [intOf]; omega
            · have hjs' : ¬ (j : Int) < (s.size : Int) := by omega
              have hk0 : ((k : Int) == 0) = true := by
                rw [beq_iff_eq]
                omega
              have him' : ¬ (i : Int) < (m : Int) := by
                have := HLm.out.2
                rcases HNX.out with h | h
                · omega
                · omega
              clear hbl hnb
              go_upto_region 12 with fail
              have HW9 : Hid (∀ m, w1.grownBy (wr.drewN m) none) := fun m => grown_trans HW.out (grown_drewN wr m none)
              clear HW
              go_quiet (fail)
              go_wp2
              go_roundw
              case rel => exact ⟨j + k, i + 1, by omega, by omega, by go_num, by go_num, by
                show (_ ∨ _)
                rcases HR.out with h | h
                · exact .inr ⟨h.2.1, h.2.2⟩
                · exact .inl ⟨h.2.1, h.2.2⟩, HW9.out _⟩
              case measure => simp [intOf]; omega
      · obtain rfl : i = L := by omega
        have haz : a = s.size := by
          rcases HI.out with h | h
          · omega
          · exact h.2
        have G := grown_trans HK1.out HW.out
        have hss : ((s.size : Int) == (s.size : Int)) = true := by simp
        subst haz
        clear HI HW HCC
        go_wp2_with fail
        refine (awake10_any _ (HT.out.grown (by assumption))).mono ?_
        rintro e w3 ⟨rfl, K3⟩
        go_wp2
        go_ret
        exact ⟨rfl, grown_trans G K3⟩

set_option maxRecDepth 100000 in
theorem lifted (os : Os) (started : os.Started) (H : Type) (enc : TypeId × Value → H) (F : Stop.Interp) :
    ReturnsInHanded {} Tryd.checked os 4 .any ((OpenSpec.ofChange Rows.lexCoversSpec).preRow enc Tryd.prog Tryd.f4 Rows.lexCoversRow.domain false Rows.lexCoversRow.laid) (((OpenSpec.ofChange Rows.lexCoversSpec).at F).post enc Tryd.prog Tryd.f4 false true false false) := by
  have hx : DataW.whole enc Tryd.prog ((laidWorld os).forCall (fun _ _ => 0) ⟨#[], #[.string .empty], []⟩).memory Tryd.f4.params.toList Rows.lexCoversSpec.vars false (#[.string .empty] : Array Value).toList 8 = some ([.lit (.string [])], [], []) := by kernel_rfl
  refine returnsInHanded_of_row (C := Tryd.checked) (s := (OpenSpec.ofChange Rows.lexCoversSpec)) own started (by kernel_rfl) Tryd.func4
    (witness_row_atRef (enc := enc) (C := Tryd.checked) false (laidWorld os) #[.string .empty] (World.laidAll_os _ _ _) (by kernel_rfl) (by kernel_rfl) (by kernel_rfl)
      (OpenSpec.preRow_of_cond 8 hx (by kernel_rfl) (fun k hk => by cases hk) (by kernel_rfl) (laid_met os _))) ?_
  intro W base args ds gs before hval0 hW hcnd hcond hsz0 hL hsh _
  have hsz : (DataW.weightsEach Tryd.prog (Tryd.f4.params.toList ++ Rows.lexCoversSpec.plain.varTypes Tryd.prog) (ds ++ gs)).all (· ≤ reachBytes) = true := hsz0
  have T : Tab W := laid_tab hL hsh
  have hval : ∀ (j : Nat) t v, Tryd.f4.params[j]? = some t → args[j]? = some v → Value.okWide Tryd.prog W .any base t v := hval0
  have hW' := hW
  obtain ⟨p, q, hA0, hV, rfl, hfz, hnd⟩ := hW
  have hA : DataW.TrodAll enc Tryd.prog W 0 (fun _ => true) true Tryd.f4.params.toList args.toList ds p := hA0
  rw [Tryd.params4] at hA hval hsz
  obtain ⟨v0, vs0, d0, ds0, p0, q0, hargs, rfl, rfl, h0, r0⟩ := trodAll_cons hA
  obtain ⟨rfl, rfl, rfl⟩ := trodAll_nil r0
  obtain rfl : args = #[v0] := by cases args; simp_all
  obtain ⟨rfl, rfl⟩ := trodVars_none hV
  obtain ⟨s0, rfl, rfl, rfl, hs0⟩ := open_string Tryd.underlying9 (hval 0 9 v0 rfl rfl) h0
  have hlen0 : s0.size ≤ 140737488351232 := by
    have h := sized_string hsz (j := 0) (t := 9) rfl rfl
    unfold reachBytes at h
    have e : s0.data.toList.length = s0.size := by rw [Array.length_toList]; rfl
    omega
  clear hA0 hval0
  refine (walk s0 W hlen0 T).mono fun e W' ⟨he, hg⟩ => ?_
  subst he
  have bel : Below W.heap.size W W' := (Below.refl _ _).grown hg (Nat.le_refl _) (by simp)
  exact ⟨_, rfl, _, _, _, [], _, [], hW', trodAll_mk1 (shut_bool Tryd.underlying4 _), (trodAll_cons_mk (shut_string Tryd.underlying9 hs0) trodAll_mk0), rfl, bel.frame _, fun h => by cases h⟩

theorem over : Rows.LexCoversSaid :=
  OpenClaim.holds_of_cond 4 Tryd.f4 rfl rfl rfl rfl rfl rfl rfl ⟨rfl, rfl, rfl, rfl, rfl⟩ rfl rfl rfl rfl rfl (by kernel_rfl) Tryd.func4 (by kernel_rfl)
    (of_decide_eq_true (by kernel_rfl)) (by unfold Func.isWrapper; first | (rw [if_pos (by decide +kernel)]; kernel_rfl) | (rw [if_neg (by decide +kernel)]; exact ⟨rfl, rfl⟩))
    (fun os started H enc _ F => by rw [OpenClaim.pre_eq_preRow]; exact lifted os started H enc F)

theorem plain (f : FuncId) (fn : Func) (hf : Tryd.pinned.checked.prog.funcNamed "riddle/riddlelaw10.LexCovers" = some f) (hfn : Tryd.pinned.checked.prog.funcs[f]? = some fn) :
    true = Tryd.pinned.checked.prog.looks [] ∧ ∀ (j : Nat) t, fn.params[j]? = some t → Tryd.pinned.checked.prog.wantsStandIn t = false := by
  obtain rfl : f = 4 := Option.some.inj ((show Tryd.prog.funcNamed "riddle/riddlelaw10.LexCovers" = some 4 by kernel_rfl).symm.trans hf) |>.symm
  obtain rfl : fn = Tryd.f4 := (Option.some.inj (Tryd.func4.symm.trans hfn)).symm
  refine ⟨by kernel_rfl, fun j t ht => ?_⟩
  rw [Tryd.params4] at ht
  have ht2 := Array.mem_of_getElem? ht
  simp only [List.mem_toArray, List.mem_cons, List.not_mem_nil, or_false] at ht2
  rcases ht2 with rfl
  · exact (show Tryd.prog.wantsStandIn 9 = false by kernel_rfl)

theorem card : Rows.LexCoversCardSaid :=
  Claim7.holds_tied_plain_at .later [] _ _ _ _ over (fun _ h => by cases h) (by kernel_rfl) (fun _ h => by cases h) lexCovers_row_tie rfl ⟨rfl, rfl⟩ (by kernel_rfl) rfl plain (by kernel_rfl)

end lexCovers

theorem lexCovers_holds : Rows.LexCoversCardSaid := lexCovers.card
#print axioms lexCovers_holds

end Go.Proofs.YthmfpodibgheiaaDoor
