/-
  For every text (of at most 2^47 - 4096 bytes, as the form itself says of each argument) riddlelaw3.AsmParses returns true and leaves what was there as it was: no condition of ours.
-/
import Derived.Test.YtcapmbeabfhjoaaDoorOpenI
import Derived.Test.YtcapmbeabfhjoaaDoorAwake3
import Derived.Test.YtcapmbeabfhjoaaDoorParseR
import Derived.Test.YtcapmbeabfhjoaaDoorLaid
namespace Go.Proofs.YtcapmbeabfhjoaaDoor
open Go.ChangeShapes Go.WideShapes Go.ChangeAt Go.RowKit
open Go.ChangeMaps (open_string shut_string)
set_option maxRecDepth 100000

theorem parseG_len : ∀ (i : Nat) (ls : List (List UInt8)) (out : List In), (parseG i ls out).1.length ≤ out.length + ls.length
  | _, [], out => by simp [parseG]
  | i, l :: ls, out => by
    rw [parseG]
    split
    · simp
    · cases readV l with
      | none => simp
      | some x => have := parseG_len (i + 1) ls (out ++ [x]); simp at *; omega

theorem parseV_len (s : List UInt8) : (parseV s).1.length ≤ 1048577 := by
  unfold parseV
  split
  · simp
  · have h1 := parseG_len 0 (linesV s) []
    have h2 := linesG_many [] s
    simp only [linesV, List.length_nil] at *
    omega

namespace asmParses

set_option maxHeartbeats 2000000 in
theorem walk (s : ByteArray) (w : World) (hn : s.size ≤ 140737488351232) (T : Tab w) :
    Calls Tryd.prog 5 #[.string s] w fun e w' => e = .returned (.bool true) ∧ w.grownBy w' none := by
  have HTb : Hid (Tab w) := T
  clear T
  obtain ⟨V, L, E, hV⟩ : ∃ (V : List In) (L : Nat) (E : Int), parseV (sl s) = (V, L, E) := ⟨_, _, _, rfl⟩
  have hVl : V.length ≤ 1048577 := by have := parseV_len (sl s); rw [hV] at this; exact this
  have HR : Hid (∀ W : World, Calls Tryd.prog 16 #[.string s] W fun e w' => PMade W w' e (V, L, E)) := fun W => by rw [← hV]; exact refparse_any s W (by omega)
  have HP : Hid (∀ W : World, w.grownBy W none → Calls Tryd.prog 17 #[.string s] W fun e w' => PMade W w' e (V, L, E)) := fun W g => by rw [← hV]; exact parse_any s W (by omega) (HTb.out.grown g)
  clear hV
  go_enter Tryd.func5, Tryd.ntmps5
  go_wp2_with fail
  refine (HR.out _).mono ?_
  rintro e w1 ⟨want, rfl, O1, G1⟩
  obtain ⟨ao1, cap1, rfl, C1, -, -, -, B1, -⟩ := cv_of_row O1
  clear O1
  go_wp2_with fail
  refine (HP.out _ G1).mono ?_
  rintro e w2 ⟨x, rfl, O2, K2⟩
  have G2 := grown_trans G1 K2
  have D2 := C1.keptNone K2
  clear C1
  go_wp2_with fail
  refine (HP.out _ G2).mono ?_
  rintro e w3 ⟨y, rfl, O3, K3⟩
  have G3 := grown_trans G2 K3
  have D3 := D2.keptNone K3
  have O2x : IOwns w3 w1.heap.size x V := owns_keptNone O2 K3
  have hx4 := O2.lt
  obtain ⟨ao3, cap3, rfl, C3, -, -, -, B3, -⟩ := cv_of_row O3
  have E3 : ∃ aox capx, x = .slice aox V.length capx ∧ CV w3 aox (flat V) := by
    obtain ⟨aox, capx, h, c, -⟩ := cv_of_row O2x
    exact ⟨aox, capx, h, c⟩
  obtain ⟨aox, capx, hx, Cx⟩ := E3
  subst hx
  clear D2 O2 O3
  simp only
  go_wp2_with fail
  refine (isame_any aox ao1 capx cap1 V _ Cx D3 (by omega)).mono ?_
  rintro e w4 ⟨rfl, n4, rfl⟩
  clear Cx
  go_wp2_with fail
  refine (ispoil_own (xs := V) (base := w1.heap.size) (w3.drewN n4) O2x (by omega)).mono ?_
  rintro e w5 ⟨rfl, K5⟩
  have K6 : w3.grownBy w5 _ := grown_trans (grown_drewN w3 n4 _) K5
  have hxb := O2x.lt
  have D5 := D3.keptUp w1.heap.size (fun ad had => (B1 ad had).2) K6 (fun k hk => (hxb k hk).1)
  have C5 := C3.keptDown w2.heap.size (fun ad had => (B3 ad had).1) K6 (fun k hk => (hx4 k hk).2)
  have G5 : w.grownBy w5 none := grown_trans_new G3 K6 (fun k hk => by have := (hxb k hk).1; have := G1.size; omega)
  clear K5 K6 D3 C3 O2x
  go_wp2_with fail
  refine (isame_any ao3 ao1 cap3 cap1 V _ C5 D5 (by omega)).mono ?_
  rintro e w6 ⟨rfl, n6, rfl⟩
  have G6 := grown_trans G5 (grown_drewN w5 n6 none)
  clear C5 D5
  go_wp2_with fail
  refine (awake3_any _ (HTb.out.grown G6)).mono ?_
  rintro e w7 ⟨rfl, K7⟩
  have G7 := grown_trans G6 K7
  clear K7 G6 G5 G3 G2 G1 K2 K3
  go_wp2
  go_ret
  exact ⟨rfl, G7⟩

set_option maxRecDepth 100000 in
theorem lifted (os : Os) (started : os.Started) (H : Type) (enc : TypeId × Value → H) (F : Stop.Interp) :
    ReturnsInHanded {} Tryd.checked os 5 .any ((OpenSpec.ofChange Rows.asmParsesSpec).preRow enc Tryd.prog Tryd.f5 Rows.asmParsesRow.domain false Rows.asmParsesRow.laid) (((OpenSpec.ofChange Rows.asmParsesSpec).at F).post enc Tryd.prog Tryd.f5 false true false false) := by
  have hx : DataW.whole enc Tryd.prog ((laidWorld os).forCall (fun _ _ => 0) ⟨#[], #[.string .empty], []⟩).memory Tryd.f5.params.toList Rows.asmParsesSpec.vars false (#[.string .empty] : Array Value).toList 8 = some ([.lit (.string [])], [], []) := by kernel_rfl
  refine returnsInHanded_of_row (C := Tryd.checked) (s := (OpenSpec.ofChange Rows.asmParsesSpec)) own started (by kernel_rfl) Tryd.func5
    (witness_row_at (enc := enc) (C := Tryd.checked) false (laidWorld os) #[.string .empty] rfl (by kernel_rfl) (by kernel_rfl) (by kernel_rfl)
      (OpenSpec.preRow_of_cond 8 hx (by kernel_rfl) (fun k hk => by cases hk) (by kernel_rfl) (laid_met os _))) ?_
  intro W base args ds gs before hval0 hW hcnd hcond hsz0 hL _ _
  have hsz : (DataW.weightsEach Tryd.prog (Tryd.f5.params.toList ++ Rows.asmParsesSpec.plain.varTypes Tryd.prog) (ds ++ gs)).all (· ≤ reachBytes) = true := hsz0
  have T : Tab W := laid_tab hL
  have hval : ∀ (j : Nat) t v, Tryd.f5.params[j]? = some t → args[j]? = some v → Value.okWide Tryd.prog W .any base t v := hval0
  have hW' := hW
  obtain ⟨p, q, hA0, hV, rfl, hfz, hnd⟩ := hW
  have hA : DataW.TrodAll enc Tryd.prog W 0 (fun _ => true) true Tryd.f5.params.toList args.toList ds p := hA0
  rw [Tryd.params5] at hA hval hsz
  obtain ⟨v0, vs0, d0, ds0, p0, q0, hargs, rfl, rfl, h0, r0⟩ := trodAll_cons hA
  obtain ⟨rfl, rfl, rfl⟩ := trodAll_nil r0
  obtain rfl : args = #[v0] := by cases args; simp_all
  obtain ⟨rfl, rfl⟩ := trodVars_none hV
  obtain ⟨s0, rfl, rfl, rfl, hs0⟩ := open_string Tryd.underlying9 (hval 0 9 v0 rfl rfl) h0
  have hlen0 : s0.size ≤ 140737488351232 := by
    have h := sized_string hsz (j := 0) (t := 9) rfl rfl
    unfold reachBytes at h
    have e : s0.data.toList.length = s0.size := by rw [Array.length_toList]; rfl
    omega
  clear hA0 hval0
  refine (walk s0 W hlen0 T).mono fun e W' ⟨he, hg⟩ => ?_
  subst he
  have bel : Below W.heap.size W W' := (Below.refl _ _).grown hg (Nat.le_refl _) (by simp)
  exact ⟨_, rfl, _, _, _, [], _, [], hW', trodAll_mk1 (shut_bool Tryd.underlying4 _), (trodAll_cons_mk (shut_string Tryd.underlying9 hs0) trodAll_mk0), rfl, bel.frame _, fun h => by cases h⟩

theorem over : Rows.AsmParsesSaid :=
  OpenClaim.holds_of_cond 5 Tryd.f5 rfl rfl rfl rfl rfl rfl rfl ⟨rfl, rfl, rfl, rfl, rfl⟩ rfl rfl rfl rfl rfl (by kernel_rfl) Tryd.func5 (by kernel_rfl)
    (of_decide_eq_true (by kernel_rfl)) (by unfold Func.isWrapper; first | (rw [if_pos (by decide +kernel)]; kernel_rfl) | (rw [if_neg (by decide +kernel)]; exact ⟨rfl, rfl⟩))
    (fun os started H enc _ F => by rw [OpenClaim.pre_eq_preRow]; exact lifted os started H enc F)

theorem plain (f : FuncId) (fn : Func) (hf : Tryd.pinned.checked.prog.funcNamed "riddle/riddlelaw3.AsmParses" = some f) (hfn : Tryd.pinned.checked.prog.funcs[f]? = some fn) :
    false = Tryd.pinned.checked.prog.looks [] ∧ ∀ (j : Nat) t, fn.params[j]? = some t → Tryd.pinned.checked.prog.wantsStandIn t = false := by
  obtain rfl : f = 5 := Option.some.inj ((show Tryd.prog.funcNamed "riddle/riddlelaw3.AsmParses" = some 5 by kernel_rfl).symm.trans hf) |>.symm
  obtain rfl : fn = Tryd.f5 := (Option.some.inj (Tryd.func5.symm.trans hfn)).symm
  refine ⟨by kernel_rfl, fun j t ht => ?_⟩
  rw [Tryd.params5] at ht
  have ht2 := Array.mem_of_getElem? ht
  simp only [List.mem_toArray, List.mem_cons, List.not_mem_nil, or_false] at ht2
  rcases ht2 with rfl
  · exact (show Tryd.prog.wantsStandIn 9 = false by kernel_rfl)

theorem card : Rows.AsmParsesCardSaid :=
  Claim7.holds_tied_plain_at .later [] _ _ _ _ over (fun _ h => by cases h) (by kernel_rfl) (fun _ h => by cases h) asmParses_row_tie rfl ⟨rfl, rfl⟩ (by kernel_rfl) rfl plain (by kernel_rfl)

end asmParses

theorem asmParses_holds : Rows.AsmParsesCardSaid := asmParses.card
#print axioms asmParses_holds
end Go.Proofs.YtcapmbeabfhjoaaDoor
