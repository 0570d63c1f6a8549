/-
  For every list of instructions (its capacity at most 2^47 - 4096 bytes, as the form itself says of each argument) riddlelaw3.AsmPrints returns true and leaves what was there as it was: no condition of ours.
-/
import Derived.Test.YtcapmbeabfhjoaaDoorOpenI
import Derived.Test.YtcapmbeabfhjoaaDoorAwake3
import Derived.Test.YtcapmbeabfhjoaaDoorLaid
namespace Go.Proofs.YtcapmbeabfhjoaaDoor
open Go.ChangeShapes Go.WideShapes Go.ChangeAt Go.RowKit
open Go.ChangeMaps (open_string shut_string)
set_option maxRecDepth 100000
namespace asmPrints

set_option maxHeartbeats 2000000 in
theorem walk (a : Option Addr) (ca : Nat) (xs : List In) (w : World) (ha : CV w a (flat xs)) (hc0 : a = none → ca = 0) (_hca : xs.length ≤ ca) (_hcm : ca ≤ maxLen) (hn : xs.length * 8 ≤ 140737488351232) (T : Tab w) :
    Calls Tryd.prog 4 #[.slice a xs.length ca] w fun e w' => e = .returned (.bool true) ∧ w.grownBy w' none := by
  have H : Hid (CV w a (flat xs)) := ha
  have HTb : Hid (Tab w) := T
  clear ha T
  obtain ⟨V, hV⟩ : ∃ V : ByteArray, ⟨(printV xs).toArray⟩ = V := ⟨_, rfl⟩
  obtain ⟨E, hE⟩ : ∃ E, printE xs = E := ⟨_, rfl⟩
  have HR : Hid (∀ (a : Option Addr) (ca : Nat) (W : World), CV W a (flat xs) → Calls Tryd.prog 12 #[.slice a xs.length ca] W fun e w' => e = .returned (.tuple #[.string V, .int .i64 E]) ∧ W.grownBy w' none) := fun a ca W h => by
    rw [← hV, ← hE]
    exact refprint_any a ca xs W h (by omega)
  have HP : Hid (∀ (a : Option Addr) (ca : Nat) (W : World), CV W a (flat xs) → w.grownBy W none → Calls Tryd.prog 14 #[.slice a xs.length ca] W fun e w' => e = .returned (.tuple #[.string V, .int .i64 E]) ∧ W.grownBy w' none) := fun a ca W h g => by
    rw [← hV, ← hE]
    exact print_any a ca xs W h (by omega) (HTb.out.grown g)
  clear hV hE
  go_enter Tryd.func4, Tryd.ntmps4
  go_wp2_with fail
  refine (HR.out a ca _ H.out).mono ?_
  rintro e w1 ⟨rfl, G1⟩
  go_wp2_with fail
  refine (ilend_any a ca xs _ (H.out.keptNone G1) hc0 hn).mono ?_
  rintro e w2 ⟨v2, rfl, ⟨g, cap, rfl, -, -, hg1, hg2, hown⟩, K2⟩
  have C2 := (icv_front hown).1
  have G2 := grown_trans G1 K2
  go_wp2_with fail
  refine (HP.out _ cap _ C2 G2).mono ?_
  rintro e w3 ⟨rfl, K3⟩
  have G3 := grown_trans G2 K3
  have own3 := hown.kept K3 (by simp [Value.ownBlock])
  clear C2 hown
  go_wp2_with fail
  refine (ikept_any g cap a ca xs _ (owns_mono own3 (Nat.zero_le _)) (H.out.keptNone G3) hn).mono ?_
  rintro e w4 ⟨rfl, K4⟩
  have G4 : w.grownBy w4 none := grown_trans_new G3 K4 (by intro k hk; obtain rfl := Option.some.inj hk; have := G1.size; omega)
  clear own3 G1 G2 G3 K2 K3 K4
  go_wp2_with fail
  refine (awake3_any _ (HTb.out.grown G4)).mono ?_
  rintro e w5 ⟨rfl, K5⟩
  have G5 := grown_trans G4 K5
  clear G4 K5
  go_wp2
  go_ret
  exact ⟨rfl, G5⟩

set_option maxRecDepth 100000 in
theorem lifted (os : Os) (started : os.Started) (H : Type) (enc : TypeId × Value → H) (F : Stop.Interp) :
    ReturnsInHanded {} Tryd.checked os 4 .any ((OpenSpec.ofChange Rows.asmPrintsSpec).preRow enc Tryd.prog Tryd.f4 Rows.asmPrintsRow.domain false Rows.asmPrintsRow.laid) (((OpenSpec.ofChange Rows.asmPrintsSpec).at F).post enc Tryd.prog Tryd.f4 false true false false) := by
  have hx : DataW.whole enc Tryd.prog ((laidWorld os).forCall (fun _ _ => 0) ⟨#[], #[.slice none 0 0], []⟩).memory Tryd.f4.params.toList Rows.asmPrintsSpec.vars false (#[.slice none 0 0] : Array Value).toList 8 = some ([.nil], [], []) := by kernel_rfl
  refine returnsInHanded_of_row (C := Tryd.checked) (s := (OpenSpec.ofChange Rows.asmPrintsSpec)) own started (by kernel_rfl) Tryd.func4
    (witness_row_at (enc := enc) (C := Tryd.checked) false (laidWorld os) #[.slice none 0 0] rfl (by kernel_rfl) (by kernel_rfl) (by kernel_rfl)
      (OpenSpec.preRow_of_cond 8 hx (by kernel_rfl) (fun k hk => by cases hk) (by kernel_rfl) (laid_met os _))) ?_
  intro W base args ds gs before hval0 hW hcnd hcond hsz0 hL _ _
  have hsz : (DataW.weightsEach Tryd.prog (Tryd.f4.params.toList ++ Rows.asmPrintsSpec.plain.varTypes Tryd.prog) (ds ++ gs)).all (· ≤ reachBytes) = true := hsz0
  have T : Tab W := laid_tab hL
  have hval : ∀ (j : Nat) t v, Tryd.f4.params[j]? = some t → args[j]? = some v → Value.okWide Tryd.prog W .any base t v := hval0
  have hW' := hW
  obtain ⟨p, q, hA0, hV, rfl, hfz, hnd⟩ := hW
  have hA : DataW.TrodAll enc Tryd.prog W 0 (fun _ => true) true Tryd.f4.params.toList args.toList ds p := hA0
  rw [Tryd.params4] at hA hval hsz
  obtain ⟨v0, vs0, d0, ds0, p0, q0, hargs, rfl, rfl, h0, r0⟩ := trodAll_cons hA
  obtain ⟨rfl, rfl, rfl⟩ := trodAll_nil r0
  obtain rfl : args = #[v0] := by cases args; simp_all
  obtain ⟨rfl, rfl⟩ := trodVars_none hV
  obtain ⟨a0, len0, cap0, rfl⟩ := okWide_slice Tryd.underlying29 (hval 0 29 v0 rfl rfl)
  have k0 := h0
  have lt0 : ∀ x ∈ p0, x.block < W.heap.size := by obtain ⟨m, hm⟩ := k0; exact DataW.trod_lt m _ _ _ hm
  obtain ⟨xs0, rfl, hcells0, hnil0, hcp0, hdat0⟩ := open_insns h0
  have hlen0 : xs0.length * 8 ≤ 140737488351232 := by
    rcases hdat0 with ⟨_, rfl⟩ | ⟨elems, spare, rfl, hle⟩
    · simp
    · have := sized_slice hsz (j := 0) (t := 29) (e := 25) rfl rfl Tryd.underlying29
      rw [bytes25] at this
      unfold reachBytes at this
      omega
  clear hA0 hval0
  refine (walk a0 cap0 xs0 W hcells0 hnil0 hcp0.1 hcp0.2 (by omega) T).mono fun e W' ⟨he, hg⟩ => ?_
  subst he
  have bel : Below W.heap.size W W' := (Below.refl _ _).grown hg (Nat.le_refl _) (by simp)
  exact ⟨_, rfl, _, _, _, [], _, [], hW', trodAll_mk1 (shut_bool Tryd.underlying4 _), (trodAll_cons_mk (Below.trod laidOut (by kernel_rfl) (of_decide_eq_true (by kernel_rfl)) k0 bel lt0) trodAll_mk0), rfl, bel.frame _, fun h => by cases h⟩

theorem over : Rows.AsmPrintsSaid :=
  OpenClaim.holds_of_cond 4 Tryd.f4 rfl rfl rfl rfl rfl rfl rfl ⟨rfl, rfl, rfl, rfl, rfl⟩ rfl rfl rfl rfl rfl (by kernel_rfl) Tryd.func4 (by kernel_rfl)
    (of_decide_eq_true (by kernel_rfl)) (by unfold Func.isWrapper; first | (rw [if_pos (by decide +kernel)]; kernel_rfl) | (rw [if_neg (by decide +kernel)]; exact ⟨rfl, rfl⟩))
    (fun os started H enc _ F => by rw [OpenClaim.pre_eq_preRow]; exact lifted os started H enc F)

theorem plain (f : FuncId) (fn : Func) (hf : Tryd.pinned.checked.prog.funcNamed "riddle/riddlelaw3.AsmPrints" = some f) (hfn : Tryd.pinned.checked.prog.funcs[f]? = some fn) :
    false = Tryd.pinned.checked.prog.looks [] ∧ ∀ (j : Nat) t, fn.params[j]? = some t → Tryd.pinned.checked.prog.wantsStandIn t = false := by
  obtain rfl : f = 4 := Option.some.inj ((show Tryd.prog.funcNamed "riddle/riddlelaw3.AsmPrints" = some 4 by kernel_rfl).symm.trans hf) |>.symm
  obtain rfl : fn = Tryd.f4 := (Option.some.inj (Tryd.func4.symm.trans hfn)).symm
  refine ⟨by kernel_rfl, fun j t ht => ?_⟩
  rw [Tryd.params4] at ht
  have ht2 := Array.mem_of_getElem? ht
  simp only [List.mem_toArray, List.mem_cons, List.not_mem_nil, or_false] at ht2
  rcases ht2 with rfl
  · exact (show Tryd.prog.wantsStandIn 29 = false by kernel_rfl)

theorem card : Rows.AsmPrintsCardSaid :=
  Claim7.holds_tied_plain_at .later [] _ _ _ _ over (fun _ h => by cases h) (by kernel_rfl) (fun _ h => by cases h) asmPrints_row_tie rfl ⟨rfl, rfl⟩ (by kernel_rfl) rfl plain (by kernel_rfl)

end asmPrints

theorem asmPrints_holds : Rows.AsmPrintsCardSaid := asmPrints.card
#print axioms asmPrints_holds
end Go.Proofs.YtcapmbeabfhjoaaDoor
