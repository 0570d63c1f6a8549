/-
  For every string (of such size as the form itself says of each argument) riddlelaw10.LexTokens returns true and leaves what was there as it was: no condition of ours.
-/
import Derived.Test.YthmfpodibgheiaaDoorLexK
import Derived.Test.YthmfpodibgheiaaDoorOpen
import Derived.Test.YthmfpodibgheiaaDoorLkL
import Derived.BigQuiet
namespace Go.Proofs.YthmfpodibgheiaaDoor
open Go.ChangeShapes Go.WideShapes Go.ChangeAt Go.RowKit
open Go.ChangeMaps (open_string shut_string)
set_option maxRecDepth 100000

namespace lexTokens

set_option maxRecDepth 100000 in
set_option maxHeartbeats 4000000 in
theorem walk (s : ByteArray) (w : World) (hs : s.size ≤ 140737488351232) (T : Tab w) :
    Calls Tryd.prog 3 #[.string s] w fun e w' => e = .returned (.bool true) ∧ w.grownBy w' none := by
  have HT : Hid (Tab w) := T
  clear T
  have C0 := reflex_any s (by omega) w
  have HCL : Hid (∀ W : World, Tab W → Calls Tryd.prog 10 #[.string s] W fun e w' => ∃ v, e = .returned (.tuple #[v, .int .i64 (lexP (lexV (sl s)) : Int), .int .i64 (lexE (lexV (sl s)))]) ∧ TOwns w' W.heap.size v (lexT (lexV (sl s))) ∧ W.grownBy w' none) := fun W TW => lex_any s (by omega) W TW
  have hfew := lexV_few (sl s)
  generalize lexP (lexV (sl s)) = p at *
  generalize lexE (lexV (sl s)) = er at *
  generalize lexT (lexV (sl s)) = ts at *
  have hpp : ((p : Int) != (p : Int)) = false := by simp
  have hee : (er != er) = false := by simp
  go_enter Tryd.func3, Tryd.ntmps3
  go_wp2_with fail
  refine C0.mono ?_
  rintro e w1 ⟨v1, rfl, O1, K1⟩
  clear C0
  go_wp2_with fail
  refine (HCL.out _ (HT.out.grown (by assumption))).mono ?_
  rintro e w2 ⟨v2, rfl, O2, K2⟩
  have HS1 : Hid (∀ y, v1.ownBlock = some y → y < w1.heap.size) := fun y hy => (World.ownsRow.lt O1 y hy).2
  have HS2 : Hid (∀ y, v2.ownBlock = some y → w1.heap.size ≤ y ∧ y < w2.heap.size) := fun y hy => World.ownsRow.lt O2 y hy
  have O1' : TOwns w2 w.heap.size v1 ts := owns_keptNone O1 K2
  have G2 := grown_trans K1 K2
  clear O1
  go_wp2_with fail
  refine (HCL.out _ (HT.out.grown (by assumption))).mono ?_
  rintro e w3 ⟨v3, rfl, O3, K3⟩
  have Q1 : TOwns w3 w.heap.size v1 ts := owns_keptNone O1' K3
  have Q2 : TOwns w3 w1.heap.size v2 ts := owns_keptNone O2 K3
  have G3 := grown_trans G2 K3
  have HSW : Hid (w.heap.size ≤ w1.heap.size) := K1.size
  have CS := tsame_own Q2 Q1 (by omega)
  have HQ : Hid (TOwns w3 w.heap.size v1 ts ∧ TOwns w3 w1.heap.size v2 ts ∧ TOwns w3 w2.heap.size v3 ts ∧ w.grownBy w3 none) := ⟨Q1, Q2, O3, G3⟩
  clear HCL O1' O2 G2 Q1 Q2 O3 G3 K1 K2 K3
  go_wp2_with fail
  refine CS.mono ?_
  rintro e w4 ⟨rfl, n4, rfl⟩
  have K4 := grown_drewN w3 n4 none
  have Q2 : TOwns (w3.drewN n4) w1.heap.size v2 ts := owns_keptNone HQ.out.2.1 K4
  have HQ4 : Hid (TOwns (w3.drewN n4) w.heap.size v1 ts ∧ TOwns (w3.drewN n4) w2.heap.size v3 ts ∧ w.grownBy (w3.drewN n4) none) := ⟨owns_keptNone HQ.out.1 K4, owns_keptNone HQ.out.2.2.1 K4, grown_trans HQ.out.2.2.2 K4⟩
  have CP := tspoil_own _ Q2 (by omega)
  clear CS HQ K4 Q2
  generalize w3.drewN n4 = w4 at *
  go_wp2_with fail
  refine CP.mono ?_
  rintro e w5 ⟨rfl, K5⟩
  have P1 : TOwns w5 w.heap.size v1 ts := World.ownsRow.kept HQ4.out.1 K5 (by
    cases h1 : v1.ownBlock with
    | none => exact .inl rfl
    | some y =>
      right
      intro e
      have := HS1.out y h1
      have := HS2.out y e.symm
      omega)
  have P3 : TOwns w5 w2.heap.size v3 ts := World.ownsRow.kept HQ4.out.2.1 K5 (by
    cases h1 : v3.ownBlock with
    | none => exact .inl rfl
    | some y =>
      right
      intro e
      have := (World.ownsRow.lt HQ4.out.2.1 y h1).1
      have := HS2.out y e.symm
      omega)
  have G5 : w.grownBy w5 none := grown_trans_new HQ4.out.2.2 K5 (fun y hy => by have := HS2.out y hy; have := HSW.out; omega)
  have CS2 := tsame_own P3 P1 (by omega)
  clear CP K5 P1 P3 HQ4
  go_wp2_with fail
  refine CS2.mono ?_
  rintro e w6 ⟨rfl, n6, rfl⟩
  have G6 := grown_trans G5 (grown_drewN w5 n6 none)
  clear CS2
  go_wp2_with fail
  refine (awake10_any _ (HT.out.grown (by assumption))).mono ?_
  rintro e w7 ⟨rfl, K7⟩
  go_wp2
  go_ret
  exact ⟨rfl, grown_trans G6 K7⟩

set_option maxRecDepth 100000 in
theorem lifted (os : Os) (started : os.Started) (H : Type) (enc : TypeId × Value → H) (F : Stop.Interp) :
    ReturnsInHanded {} Tryd.checked os 3 .any ((OpenSpec.ofChange Rows.lexTokensSpec).preRow enc Tryd.prog Tryd.f3 Rows.lexTokensRow.domain false Rows.lexTokensRow.laid) (((OpenSpec.ofChange Rows.lexTokensSpec).at F).post enc Tryd.prog Tryd.f3 false true false false) := by
  have hx : DataW.whole enc Tryd.prog ((laidWorld os).forCall (fun _ _ => 0) ⟨#[], #[.string .empty], []⟩).memory Tryd.f3.params.toList Rows.lexTokensSpec.vars false (#[.string .empty] : Array Value).toList 8 = some ([.lit (.string [])], [], []) := by kernel_rfl
  refine returnsInHanded_of_row (C := Tryd.checked) (s := (OpenSpec.ofChange Rows.lexTokensSpec)) own started (by kernel_rfl) Tryd.func3
    (witness_row_atRef (enc := enc) (C := Tryd.checked) false (laidWorld os) #[.string .empty] (World.laidAll_os _ _ _) (by kernel_rfl) (by kernel_rfl) (by kernel_rfl)
      (OpenSpec.preRow_of_cond 8 hx (by kernel_rfl) (fun k hk => by cases hk) (by kernel_rfl) (laid_met os _))) ?_
  intro W base args ds gs before hval0 hW hcnd hcond hsz0 hL hsh _
  have hsz : (DataW.weightsEach Tryd.prog (Tryd.f3.params.toList ++ Rows.lexTokensSpec.plain.varTypes Tryd.prog) (ds ++ gs)).all (· ≤ reachBytes) = true := hsz0
  have T : Tab W := laid_tab hL hsh
  have hval : ∀ (j : Nat) t v, Tryd.f3.params[j]? = some t → args[j]? = some v → Value.okWide Tryd.prog W .any base t v := hval0
  have hW' := hW
  obtain ⟨p, q, hA0, hV, rfl, hfz, hnd⟩ := hW
  have hA : DataW.TrodAll enc Tryd.prog W 0 (fun _ => true) true Tryd.f3.params.toList args.toList ds p := hA0
  rw [Tryd.params3] at hA hval hsz
  obtain ⟨v0, vs0, d0, ds0, p0, q0, hargs, rfl, rfl, h0, r0⟩ := trodAll_cons hA
  obtain ⟨rfl, rfl, rfl⟩ := trodAll_nil r0
  obtain rfl : args = #[v0] := by cases args; simp_all
  obtain ⟨rfl, rfl⟩ := trodVars_none hV
  obtain ⟨s0, rfl, rfl, rfl, hs0⟩ := open_string Tryd.underlying9 (hval 0 9 v0 rfl rfl) h0
  have hlen0 : s0.size ≤ 140737488351232 := by
    have h := sized_string hsz (j := 0) (t := 9) rfl rfl
    unfold reachBytes at h
    have e : s0.data.toList.length = s0.size := by rw [Array.length_toList]; rfl
    omega
  clear hA0 hval0
  refine (walk s0 W hlen0 T).mono fun e W' ⟨he, hg⟩ => ?_
  subst he
  have bel : Below W.heap.size W W' := (Below.refl _ _).grown hg (Nat.le_refl _) (by simp)
  exact ⟨_, rfl, _, _, _, [], _, [], hW', trodAll_mk1 (shut_bool Tryd.underlying4 _), (trodAll_cons_mk (shut_string Tryd.underlying9 hs0) trodAll_mk0), rfl, bel.frame _, fun h => by cases h⟩

theorem over : Rows.LexTokensSaid :=
  OpenClaim.holds_of_cond 3 Tryd.f3 rfl rfl rfl rfl rfl rfl rfl ⟨rfl, rfl, rfl, rfl, rfl⟩ rfl rfl rfl rfl rfl (by kernel_rfl) Tryd.func3 (by kernel_rfl)
    (of_decide_eq_true (by kernel_rfl)) (by unfold Func.isWrapper; first | (rw [if_pos (by decide +kernel)]; kernel_rfl) | (rw [if_neg (by decide +kernel)]; exact ⟨rfl, rfl⟩))
    (fun os started H enc _ F => by rw [OpenClaim.pre_eq_preRow]; exact lifted os started H enc F)

theorem plain (f : FuncId) (fn : Func) (hf : Tryd.pinned.checked.prog.funcNamed "riddle/riddlelaw10.LexTokens" = some f) (hfn : Tryd.pinned.checked.prog.funcs[f]? = some fn) :
    true = Tryd.pinned.checked.prog.looks [] ∧ ∀ (j : Nat) t, fn.params[j]? = some t → Tryd.pinned.checked.prog.wantsStandIn t = false := by
  obtain rfl : f = 3 := Option.some.inj ((show Tryd.prog.funcNamed "riddle/riddlelaw10.LexTokens" = some 3 by kernel_rfl).symm.trans hf) |>.symm
  obtain rfl : fn = Tryd.f3 := (Option.some.inj (Tryd.func3.symm.trans hfn)).symm
  refine ⟨by kernel_rfl, fun j t ht => ?_⟩
  rw [Tryd.params3] at ht
  have ht2 := Array.mem_of_getElem? ht
  simp only [List.mem_toArray, List.mem_cons, List.not_mem_nil, or_false] at ht2
  rcases ht2 with rfl
  · exact (show Tryd.prog.wantsStandIn 9 = false by kernel_rfl)

theorem card : Rows.LexTokensCardSaid :=
  Claim7.holds_tied_plain_at .later [] _ _ _ _ over (fun _ h => by cases h) (by kernel_rfl) (fun _ h => by cases h) lexTokens_row_tie rfl ⟨rfl, rfl⟩ (by kernel_rfl) rfl plain (by kernel_rfl)

end lexTokens

theorem lexTokens_holds : Rows.LexTokensCardSaid := lexTokens.card
#print axioms lexTokens_holds

end Go.Proofs.YthmfpodibgheiaaDoor
