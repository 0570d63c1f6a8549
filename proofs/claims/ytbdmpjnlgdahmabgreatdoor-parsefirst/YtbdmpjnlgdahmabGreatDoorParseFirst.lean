/-
  For every two strings (of such size as the form itself says of each argument) riddlelaw11.ParseFirst returns true and leaves what was there as it was: no condition of ours.
-/
import Derived.Test.YtbdmpjnlgdahmabGreatDoorLotP50
import Derived.Test.YtbdmpjnlgdahmabGreatDoorLotP51
import Derived.Test.YtbdmpjnlgdahmabGreatDoorLotP23
import Derived.BigQuiet
namespace Go.Proofs.YtbdmpjnlgdahmabGreatDoor
open Go.ChangeShapes Go.WideShapes Go.ChangeAt Go.RowKit
open Go.ChangeMaps (open_string shut_string)
set_option maxRecDepth 100000
namespace parseFirst

/-- What the law asks of the two answers. -/
def Right (n : Nat) (P : Nat) (E : Int) (P2 : Nat) (E2 : Int) : Prop :=
  (E = 110 ∧ P = n ∧ (E2 = 0 ∨ n ≤ P2)) ∨ (E ≠ 110 ∧ P2 = P ∧ E2 = E)

theorem lexE_zero {s : List UInt8} (h : lexE (lexV s) = 0) : ∃ ts, lexV s = .ok ts := by
  cases hx : lexV s with
  | ok ts => exact ⟨ts, rfl⟩
  | error e =>
    rw [hx] at h
    exact absurd (show e.2 = 0 from h) (by have := lexE_err hx; simpa using this)

theorem right_of {s t : List UInt8} (hl : s.length + t.length ≤ 20000) (h0 : lexE (lexV (s ++ [32] ++ t)) = 0) (h1 : prE (parseV s) ≠ 0) :
    Right s.length (prP (parseV s)) (prE (parseV s)) (prP (parseV (s ++ [32] ++ t))) (prE (parseV (s ++ [32] ++ t))) := by
  obtain ⟨us, hu⟩ := lexE_zero h0
  cases hp : parseV s with
  | ok ns => rw [hp] at h1; exact absurd rfl h1
  | error x =>
    obtain ⟨p, e⟩ := x
    rcases first_parse hl hu hp with ⟨h2, h3, ⟨ns, h4⟩ | ⟨y, h4, h5⟩⟩ | ⟨h2, h3⟩
    · exact .inl ⟨h2, h3, .inl (by rw [h4]; rfl)⟩
    · exact .inl ⟨h2, h3, .inr (by rw [h4]; exact h5)⟩
    · exact .inr ⟨h2, by rw [h3], by rw [h3]⟩

set_option maxRecDepth 100000 in
set_option maxHeartbeats 8000000 in
theorem walk (s t : ByteArray) (w : World) (hs : s.size ≤ 140737488351232) (ht : t.size ≤ 140737488351232) (T : TabB w) :
    Calls Tryz.prog 4 #[.string s, .string t] w fun e w' => e = .returned (.bool true) ∧ w.grownBy w' none := by
  have HT : Hid (TabB w) := T
  clear T
  have hw1 : IntKind.i64.wrap ((s.size : Int) + (t.size : Int)) = (s.size : Int) + (t.size : Int) := by rw [IntKind.wrap_i64]; omega
  have hcat : sl (s ++ ⟨#[32]⟩ ++ t) = sl s ++ [32] ++ sl t := by rw [sl_cat, sl_cat]; rfl
  have hcl : (s ++ ⟨#[32]⟩ ++ t).size = s.size + 1 + t.size := by
    rw [← sl_len, hcat, List.length_append, List.length_append, sl_len, sl_len]; rfl
  have HRG : Hid (s.size + t.size ≤ 20000 → lexE (lexV (sl s ++ [32] ++ sl t)) = 0 → prE (parseV (sl s)) ≠ 0 → Right s.size (prP (parseV (sl s))) (prE (parseV (sl s))) (prP (parseV (sl s ++ [32] ++ sl t))) (prE (parseV (sl s ++ [32] ++ sl t)))) := fun h1 h2 h3 => by
    have := right_of (by rw [sl_len, sl_len]; exact h1) h2 h3
    rw [sl_len] at this
    exact this
  have HLX : Hid (∀ W : World, TabB W → Calls Tryz.prog 6 #[.string (s ++ ⟨#[32]⟩ ++ t)] W fun e w' => ∃ v p, e = .returned (.tuple #[v, .int .i64 p, .int .i64 (lexE (lexV (sl s ++ [32] ++ sl t)))]) ∧ W.grownBy w' none) := fun W TW => by
    by_cases hb : s.size + 1 + t.size ≤ 140737488355328
    · have q := lex_any (s ++ ⟨#[32]⟩ ++ t) (by rw [hcl]; exact hb) W TW.1
      rw [hcat] at q
      exact q.mono fun e w' ⟨v, h1, _, h2⟩ => ⟨v, _, h1, h2⟩
    · have q := lexlong_any (s ++ ⟨#[32]⟩ ++ t) (by rw [hcl]; omega) W
      have e0 : lexV (sl s ++ [32] ++ sl t) = .error (0, 100) := by rw [lexV, if_pos (by rw [← hcat, sl_len, hcl]; omega)]
      rw [e0]
      exact q.mono fun e w' ⟨v, h1, h2⟩ => ⟨v, _, h1, h2⟩
  have HPX : Hid (s.size + t.size ≤ 20000 → ∀ W : World, TabB W → Calls Tryz.prog 5 #[.string (s ++ ⟨#[32]⟩ ++ t)] W fun e w' => ∃ vt vp, e = .returned (.tuple #[vt, vp, .int .i64 (prP (parseV (sl s ++ [32] ++ sl t)) : Int), .int .i64 (prE (parseV (sl s ++ [32] ++ sl t)))]) ∧ W.grownBy w' none) := fun hb W TW => by
    have q := pparse_any (s ++ ⟨#[32]⟩ ++ t) (by rw [hcl]; omega) W TW
    rw [hcat] at q
    exact q.mono fun e w' ⟨vt, vp, h1, _, _, h2⟩ => ⟨vt, vp, h1, h2⟩
  have C0 := pparse_any s (by omega) w HT.out
  obtain ⟨P, hP⟩ : ∃ P, prP (parseV (sl s)) = P := ⟨_, rfl⟩
  obtain ⟨E, hE⟩ : ∃ E, prE (parseV (sl s)) = E := ⟨_, rfl⟩
  obtain ⟨L, hL⟩ : ∃ L, lexE (lexV (sl s ++ [32] ++ sl t)) = L := ⟨_, rfl⟩
  obtain ⟨P2, hP2⟩ : ∃ P2, prP (parseV (sl s ++ [32] ++ sl t)) = P2 := ⟨_, rfl⟩
  obtain ⟨E2, hE2⟩ : ∃ E2, prE (parseV (sl s ++ [32] ++ sl t)) = E2 := ⟨_, rfl⟩
  rw [hP, hE] at C0
  rw [hL] at HLX
  rw [hP2, hE2] at HPX
  rw [hP, hE, hL, hP2, hE2] at HRG
  clear hP hE hL hP2 hE2 hcat hcl
  go_enter Tryz.func4, Tryz.ntmps4
  go_wp2_with fail
  refine C0.mono ?_
  rintro e w1 ⟨vt, vp, rfl, O1, Z1, K1⟩
  clear C0 O1 Z1
  go_wp2_with fail
  refine (HLX.out _ (HT.out.grown (by assumption))).mono ?_
  rintro e w2 ⟨v2, p2, rfl, K2⟩
  have G2 := grown_trans K1 K2
  clear HLX K1 K2
  cases hz : (L == 0) with
  | false =>
    have hz' : ¬ L = 0 := by simpa using hz
    go_wp2_with fail
    refine (awake11_any _ (HT.out.grown (by assumption))).mono ?_
    rintro e w3 ⟨rfl, K3⟩
    go_wp2
    go_ret
    exact ⟨rfl, grown_trans G2 K3⟩
  | true =>
    have hz' : L = 0 := by simpa using hz
    cases he : (E == 0) with
    | true =>
      have he' : E = 0 := by simpa using he
      go_wp2_with fail
      refine (awake11_any _ (HT.out.grown (by assumption))).mono ?_
      rintro e w3 ⟨rfl, K3⟩
      go_wp2
      go_ret
      exact ⟨rfl, grown_trans G2 K3⟩
    | false =>
      have he' : ¬ E = 0 := by simpa using he
      by_cases hb : (20000 : Int) < (s.size : Int) + (t.size : Int)
      · go_wp2_with fail
        refine (awake11_any _ (HT.out.grown (by assumption))).mono ?_
        rintro e w3 ⟨rfl, K3⟩
        go_wp2
        go_ret
        exact ⟨rfl, grown_trans G2 K3⟩
      have hR := HRG.out (by omega) (by simpa using hz) (by simpa using he)
      have HPY := HPX.out (by omega)
      have HPZ : Hid (∀ W : World, TabB W → Calls Tryz.prog 5 #[.string (s ++ ⟨#[32]⟩ ++ t)] W fun e w' => ∃ vt vp, e = .returned (.tuple #[vt, vp, .int .i64 (P2 : Int), .int .i64 E2]) ∧ W.grownBy w' none) := HPY
      have hb2 : decide ((20000 : Int) < (s.size : Int) + (t.size : Int)) = false := decide_eq_false hb
      clear HPX HPY HRG hb
      rcases hR with ⟨rfl, rfl, h5⟩ | ⟨h3, rfl, rfl⟩
      · have hpp : ((s.size : Int) == (s.size : Int)) = true := by simp
        cases h6 : (E2 == 0) with
        | true =>
          clear h5
          go_wp2_with fail
          refine (HPZ.out _ (HT.out.grown (by assumption))).mono ?_
          rintro e w3 ⟨v3, v4, rfl, K3⟩
          have G3 := grown_trans G2 K3
          clear HPZ G2 K3
          go_wp2_with fail
          refine (awake11_any _ (HT.out.grown (by assumption))).mono ?_
          rintro e w4 ⟨rfl, K4⟩
          go_wp2
          go_ret
          exact ⟨rfl, grown_trans G3 K4⟩
        | false =>
          have h7 : (s.size : Int) ≤ (P2 : Int) := by
            rcases h5 with h5 | h5
            · rw [h5] at h6; cases h6
            · omega
          clear h5
          go_wp2_with fail
          refine (HPZ.out _ (HT.out.grown (by assumption))).mono ?_
          rintro e w3 ⟨v3, v4, rfl, K3⟩
          have G3 := grown_trans G2 K3
          clear HPZ G2 K3
          go_wp2_with fail
          refine (awake11_any _ (HT.out.grown (by assumption))).mono ?_
          rintro e w4 ⟨rfl, K4⟩
          go_wp2
          go_ret
          exact ⟨rfl, grown_trans G3 K4⟩
      · have h3' : (E2 == 110) = false := by simpa using h3
        have hpp : ((P2 : Int) == (P2 : Int)) = true := by simp
        have hee : (E2 == E2) = true := by simp
        clear h3
        go_wp2_with fail
        refine (HPZ.out _ (HT.out.grown (by assumption))).mono ?_
        rintro e w3 ⟨v3, v4, rfl, K3⟩
        have G3 := grown_trans G2 K3
        clear HPZ G2 K3
        go_wp2_with fail
        refine (awake11_any _ (HT.out.grown (by assumption))).mono ?_
        rintro e w4 ⟨rfl, K4⟩
        go_wp2
        go_ret
        exact ⟨rfl, grown_trans G3 K4⟩

set_option maxRecDepth 100000 in
theorem lifted (os : Os) (started : os.Started) (H : Type) (enc : TypeId × Value → H) (F : Stop.Interp) :
    ReturnsInHanded {} Tryz.checked os 4 .any ((OpenSpec.ofChange Rows.parseFirstSpec).preRow enc Tryz.prog Tryz.f4 Rows.parseFirstRow.domain false Rows.parseFirstRow.laid) (((OpenSpec.ofChange Rows.parseFirstSpec).at F).post enc Tryz.prog Tryz.f4 false true false false) := by
  have hx : DataW.whole enc Tryz.prog ((laidWorld os).forCall (fun _ _ => 0) ⟨#[], #[.string .empty, .string .empty], []⟩).memory Tryz.f4.params.toList Rows.parseFirstSpec.vars false (#[.string .empty, .string .empty] : Array Value).toList 8 = some ([.lit (.string []), .lit (.string [])], [], []) := by kernel_rfl
  refine returnsInHanded_of_row (C := Tryz.checked) (s := (OpenSpec.ofChange Rows.parseFirstSpec)) own started (by kernel_rfl) Tryz.func4
    (witness_row_atRef (enc := enc) (C := Tryz.checked) false (laidWorld os) #[.string .empty, .string .empty] (World.laidAll_os _ _ _) (by kernel_rfl) (by kernel_rfl) (by kernel_rfl)
      (OpenSpec.preRow_of_cond 8 hx (by kernel_rfl) (fun k hk => by cases hk) (by kernel_rfl) (laid_met os _))) ?_
  intro W base args ds gs before hval0 hW hcnd hcond hsz0 hL hsh _
  have hsz : (DataW.weightsEach Tryz.prog (Tryz.f4.params.toList ++ Rows.parseFirstSpec.plain.varTypes Tryz.prog) (ds ++ gs)).all (· ≤ reachBytes) = true := hsz0
  have T : TabB W := laid_tabB hL hsh
  have hval : ∀ (j : Nat) t v, Tryz.f4.params[j]? = some t → args[j]? = some v → Value.okWide Tryz.prog W .any base t v := hval0
  have hW' := hW
  obtain ⟨p, q, hA0, hV, rfl, hfz, hnd⟩ := hW
  have hA : DataW.TrodAll enc Tryz.prog W 0 (fun _ => true) true Tryz.f4.params.toList args.toList ds p := hA0
  rw [Tryz.params4] at hA hval hsz
  obtain ⟨v0, vs0, d0, ds0, p0, q0, hargs, rfl, rfl, h0, r0⟩ := trodAll_cons hA
  obtain ⟨v1, vs1, d1, ds1, p1, q1, rfl, rfl, rfl, h1, r1⟩ := trodAll_cons r0
  obtain ⟨rfl, rfl, rfl⟩ := trodAll_nil r1
  obtain rfl : args = #[v0, v1] := by cases args; simp_all
  obtain ⟨rfl, rfl⟩ := trodVars_none hV
  obtain ⟨s0, rfl, rfl, rfl, hs0⟩ := open_string Tryz.underlying9 (hval 0 9 v0 rfl rfl) h0
  obtain ⟨s1, rfl, rfl, rfl, hs1⟩ := open_string Tryz.underlying9 (hval 1 9 v1 rfl rfl) h1
  have hlen0 : s0.size ≤ 140737488351232 := by
    have h := sized_string hsz (j := 0) (t := 9) rfl rfl
    unfold reachBytes at h
    have e : s0.data.toList.length = s0.size := by rw [Array.length_toList]; rfl
    omega
  have hlen1 : s1.size ≤ 140737488351232 := by
    have h := sized_string hsz (j := 1) (t := 9) rfl rfl
    unfold reachBytes at h
    have e : s1.data.toList.length = s1.size := by rw [Array.length_toList]; rfl
    omega
  clear hA0 hval0
  refine (walk s0 s1 W hlen0 hlen1 T).mono fun e W' ⟨he, hg⟩ => ?_
  subst he
  have bel : Below W.heap.size W W' := (Below.refl _ _).grown hg (Nat.le_refl _) (by simp)
  exact ⟨_, rfl, _, _, _, [], _, [], hW', trodAll_mk1 (shut_bool Tryz.underlying4 _), (trodAll_cons_mk (shut_string Tryz.underlying9 hs0) (trodAll_cons_mk (shut_string Tryz.underlying9 hs1) trodAll_mk0)), rfl, bel.frame _, fun h => by cases h⟩

theorem over : Rows.ParseFirstSaid :=
  OpenClaim.holds_of_cond 4 Tryz.f4 rfl rfl rfl rfl rfl rfl rfl ⟨rfl, rfl, rfl, rfl, rfl⟩ rfl rfl rfl rfl rfl (by kernel_rfl) Tryz.func4 (by kernel_rfl)
    (of_decide_eq_true (by kernel_rfl)) (by unfold Func.isWrapper; first | (rw [if_pos (by decide +kernel)]; kernel_rfl) | (rw [if_neg (by decide +kernel)]; exact ⟨rfl, rfl⟩))
    (fun os started H enc _ F => by rw [OpenClaim.pre_eq_preRow]; exact lifted os started H enc F)

theorem plain (f : FuncId) (fn : Func) (hf : Tryz.pinned.checked.prog.funcNamed "riddle/riddlelaw11.ParseFirst" = some f) (hfn : Tryz.pinned.checked.prog.funcs[f]? = some fn) :
    true = Tryz.pinned.checked.prog.looks [] ∧ ∀ (j : Nat) t, fn.params[j]? = some t → Tryz.pinned.checked.prog.wantsStandIn t = false := by
  obtain rfl : f = 4 := Option.some.inj ((show Tryz.prog.funcNamed "riddle/riddlelaw11.ParseFirst" = some 4 by kernel_rfl).symm.trans hf) |>.symm
  obtain rfl : fn = Tryz.f4 := (Option.some.inj (Tryz.func4.symm.trans hfn)).symm
  refine ⟨by kernel_rfl, fun j t ht => ?_⟩
  rw [Tryz.params4] at ht
  have ht2 := Array.mem_of_getElem? ht
  simp only [List.mem_toArray, List.mem_cons, List.not_mem_nil, or_false] at ht2
  rcases ht2 with rfl | rfl
  · exact (show Tryz.prog.wantsStandIn 9 = false by kernel_rfl)
  · exact (show Tryz.prog.wantsStandIn 9 = false by kernel_rfl)

theorem card : Rows.ParseFirstCardSaid :=
  Claim7.holds_tied_plain_at .later [] _ _ _ _ over (fun _ h => by cases h) (by kernel_rfl) (fun _ h => by cases h) parseFirst_row_tie rfl ⟨rfl, rfl⟩ (by kernel_rfl) rfl plain (by kernel_rfl)

end parseFirst

theorem parseFirst_holds : Rows.ParseFirstCardSaid := parseFirst.card
#print axioms parseFirst_holds

end Go.Proofs.YtbdmpjnlgdahmabGreatDoor
