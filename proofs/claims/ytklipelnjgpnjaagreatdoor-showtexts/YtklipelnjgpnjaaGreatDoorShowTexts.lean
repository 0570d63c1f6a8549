/-
 For every list of nodes (of such size as the form itself says of it) riddlelaw13.ShowTexts returns true and leaves what was there as it was: no condition of ours.
-/
import Derived.Test.YtklipelnjgpnjaaGreatDoorLotP45
import Derived.Test.YtklipelnjgpnjaaGreatDoorLotP14
import Derived.Deep.DeepCutAuto
namespace Go.Proofs.YtklipelnjgpnjaaGreatDoor
open Go.ChangeShapes Go.WideShapes Go.ChangeAt Go.RowKit
set_option maxRecDepth 100000
namespace showTexts
theorem showR_is (full : Bool) (T : Tr) : ∃ (s : ByteArray) (e : Int), showR full T = .tuple #[.string s, .int .i64 e] := by
 unfold showR
 split <;> exact ⟨_, _, rfl⟩
/-- The document's answers and package show's are the same. -/
theorem both (a : Option Addr) (ca : Nat) (t : List Ng) (w : World) (T : TabA w) (hA : CV w a (flatG t)) (hal : t.length * 72 ≤ 140737488351232) (hn : ∀ x ∈ t, x.n ≤ 4294967295) (hmm : ∀ x ∈ t, x.m ≤ 4294967295) :
  ∃ (s1 s2 : ByteArray) (e1 e2 : Int),
   (∀ W, w.grownBy W none → Calls Tryz.prog 9 #[.slice a t.length ca, .bool false] W fun e w' => e = .returned (.tuple #[.string s1, .int .i64 e1]) ∧ W.grownBy w' none) ∧
   (∀ W, w.grownBy W none → Calls Tryz.prog 9 #[.slice a t.length ca, .bool true] W fun e w' => e = .returned (.tuple #[.string s2, .int .i64 e2]) ∧ W.grownBy w' none) ∧
   (∀ (ao : Option Addr) (cap : Nat) W, w.grownBy W none → CV W ao (flatG t) → Calls Tryz.prog 11 #[.slice ao t.length cap] W fun e w' => e = .returned (.tuple #[.string s1, .int .i64 e1]) ∧ W.grownBy w' none) ∧
   (∀ (ao : Option Addr) (cap : Nat) W, w.grownBy W none → CV W ao (flatG t) → Calls Tryz.prog 13 #[.slice ao t.length cap] W fun e w' => e = .returned (.tuple #[.string s2, .int .i64 e2]) ∧ W.grownBy w' none) := by
 by_cases hok : (checkG t).2 = 0
 ·obtain ⟨U, hU, hf⟩ := filt_tree hok
  obtain ⟨s1, e1, h1⟩ := showR_is false U
  obtain ⟨s2, e2, h2⟩ := showR_is true U
  refine ⟨s1, s2, e1, e2, fun W G => ?_, fun W G => ?_, fun ao cap W G C => ?_, fun ao cap W G C => ?_⟩
  ·rw [← h1]; exact refshow_ok a ca t false U hU hf W (hA.keptNone G) hok hn hmm
  ·rw [← h2]; exact refshow_ok a ca t true U hU hf W (hA.keptNone G) hok hn hmm
  ·rw [← h1]; exact show_ok_S ao cap t U hU hf hok hn hmm W (T.grown G) C
  ·rw [← h2]; exact show_ok_F ao cap t U hU hf hok hn hmm W (T.grown G) C
 ·exact ⟨⟨#[]⟩, ⟨#[]⟩, 130, 130, fun W G => refshow_no a ca t false W (hA.keptNone G) hok (by omega) hn, fun W G => refshow_no a ca t true W (hA.keptNone G) hok (by omega) hn,
   fun ao cap W _ C => show_no_S ao cap t hok (by omega) hn W C, fun ao cap W _ C => show_no_F ao cap t hok (by omega) hn W C⟩
set_option maxRecDepth 100000 in
set_option maxHeartbeats 8000000 in
theorem walk (a : Option Addr) (ca : Nat) (t : List Ng) (w : World) (hA : CV w a (flatG t)) (ha0 : a = none → ca = 0) (_hac : t.length ≤ ca) (_hax : ca ≤ maxLen) (hal : t.length * 72 ≤ 140737488351232) (hao : ∀ x ∈ t, x.ok) (T : TabA w) :
  Calls Tryz.prog 3 #[.slice a t.length ca] w fun e w' => e = .returned (.bool true) ∧ w.grownBy w' none := by
 have HA : Hid (CV w a (flatG t)) := hA
 have HHA0 : Hid (a = none → ca = 0) := ha0
 have HAL : Hid (t.length * 72 ≤ 140737488351232) := hal
 have HT : Hid (TabA w) := T
 obtain ⟨s1, s2, e1, e2, b1, b2, b3, b4⟩ := both a ca t w T hA hal (fun x hx => (hao x hx).1) (fun x hx => (hao x hx).2.1)
 have HB1 : Hid (∀ W, w.grownBy W none → Calls Tryz.prog 9 #[.slice a t.length ca, .bool false] W fun e w' => e = .returned (.tuple #[.string s1, .int .i64 e1]) ∧ W.grownBy w' none) := b1
 have HB2 : Hid (∀ W, w.grownBy W none → Calls Tryz.prog 9 #[.slice a t.length ca, .bool true] W fun e w' => e = .returned (.tuple #[.string s2, .int .i64 e2]) ∧ W.grownBy w' none) := b2
 have HB3 : Hid (∀ (ao : Option Addr) (cap : Nat) W, w.grownBy W none → CV W ao (flatG t) → Calls Tryz.prog 11 #[.slice ao t.length cap] W fun e w' => e = .returned (.tuple #[.string s1, .int .i64 e1]) ∧ W.grownBy w' none) := b3
 have HB4 : Hid (∀ (ao : Option Addr) (cap : Nat) W, w.grownBy W none → CV W ao (flatG t) → Calls Tryz.prog 13 #[.slice ao t.length cap] W fun e w' => e = .returned (.tuple #[.string s2, .int .i64 e2]) ∧ W.grownBy w' none) := b4
 clear hA ha0 hao hal T b1 b2 b3 b4
 have G0 : Hid (w.grownBy w none) := World.grownBy.refl _ _
 go_enter Tryz.func3, Tryz.ntmps3
 go_wp2_with fail
 refine (HB1.out w G0.out).mono ?_
 rintro e w1 ⟨rfl, K1⟩
 have G1 : Hid (w.grownBy w1 none) := K1
 clear K1 HB1 G0
 go_wp2_with fail
 refine (HB2.out w1 G1.out).mono ?_
 rintro e w2 ⟨rfl, K2⟩
 have G2 : Hid (w.grownBy w2 none) := grown_trans G1.out K2
 clear K2 HB2 G1
 go_wp2_with fail
 refine (glend_any a ca t w2 (HA.out.keptNone G2.out) HHA0.out (by have := HAL.out; omega)).mono ?_
 rintro e w3 ⟨v3, rfl, ⟨g, cap, rfl, hc1, hc2, hg1, hg2, O3⟩, K3⟩
 have G3 : Hid (w.grownBy w3 none) := grown_trans G2.out K3
 have HO3 : Hid (World.ownsRow _ _ _ _ _ _ _) := O3
 have HG3 : Hid (w.heap.size ≤ g) := Nat.le_trans G2.out.size hg1
 clear O3 K3 hc1 hc2 hg1 hg2 G2
 go_wp2_with fail
 refine (HB3.out (some ⟨g, 0, none⟩) cap w3 G3.out (gcv_front HO3.out).1).mono ?_
 rintro e w4 ⟨rfl, K4⟩
 have G4 : Hid (w.grownBy w4 none) := grown_trans G3.out K4
 have HO4 : Hid (World.ownsRow _ _ _ _ _ _ _) := owns_mono (owns_keptNone HO3.out K4) (Nat.zero_le _)
 clear K4 HO3 HB3 G3
 go_wp2_with fail
 refine (gkept_any g cap a ca t w4 HO4.out (HA.out.keptNone G4.out) (by have := HAL.out; omega)).mono ?_
 rintro e w5 ⟨rfl, K5⟩
 have G5 : Hid (w.grownBy w5 none) := grown_trans_new G4.out K5 (fun x hx => by cases hx; exact HG3.out)
 clear K5 HO4 G4 HG3
 go_wp2_with fail
 refine (glend_any a ca t w5 (HA.out.keptNone G5.out) HHA0.out (by have := HAL.out; omega)).mono ?_
 rintro e w6 ⟨v6, rfl, ⟨g, cap, rfl, hc1, hc2, hg1, hg2, O6⟩, K6⟩
 have G6 : Hid (w.grownBy w6 none) := grown_trans G5.out K6
 have HO6 : Hid (World.ownsRow _ _ _ _ _ _ _) := O6
 have HG6 : Hid (w.heap.size ≤ g) := Nat.le_trans G5.out.size hg1
 clear O6 K6 hc1 hc2 hg1 hg2 G5
 go_wp2_with fail
 refine (HB4.out (some ⟨g, 0, none⟩) cap w6 G6.out (gcv_front HO6.out).1).mono ?_
 rintro e w7 ⟨rfl, K7⟩
 have G7 : Hid (w.grownBy w7 none) := grown_trans G6.out K7
 have HO7 : Hid (World.ownsRow _ _ _ _ _ _ _) := owns_mono (owns_keptNone HO6.out K7) (Nat.zero_le _)
 clear K7 HO6 HB4 G6
 go_wp2_with fail
 refine (gkept_any g cap a ca t w7 HO7.out (HA.out.keptNone G7.out) (by have := HAL.out; omega)).mono ?_
 rintro e w8 ⟨rfl, K8⟩
 have G8 : Hid (w.grownBy w8 none) := grown_trans_new G7.out K8 (fun x hx => by cases hx; exact HG6.out)
 clear K8 HO7 G7 HG6

 go_wp2_with fail
 refine (awake13_any _ (HT.out.grown G8.out)).mono ?_
 rintro e w9 ⟨rfl, K9⟩
 go_wp2
 go_ret
 exact ⟨rfl, grown_trans G8.out K9⟩
set_option maxRecDepth 100000 in
theorem lifted (os : Os) (started : os.Started) (H : Type) (enc : TypeId × Value → H) (F : Stop.Interp) :
  ReturnsInHanded {} Tryz.checked os 3 .any ((OpenSpec.ofChange Rows.showTextsSpec).preRow enc Tryz.prog Tryz.f3 Rows.showTextsRow.domain false Rows.showTextsRow.laid) (((OpenSpec.ofChange Rows.showTextsSpec).at F).post enc Tryz.prog Tryz.f3 false true false false) := by
 have hx : DataW.whole enc Tryz.prog ((laidWorld os).forCall (fun _ _ => 0) ⟨#[], #[.slice none 0 0], []⟩).memory Tryz.f3.params.toList Rows.showTextsSpec.vars false (#[.slice none 0 0] : Array Value).toList 8 = some ([.nil], [], []) := by kernel_rfl
 refine returnsInHanded_of_row (C := Tryz.checked) (s := (OpenSpec.ofChange Rows.showTextsSpec)) own started (by kernel_rfl) Tryz.func3
  (witness_row_atRef (enc := enc) (C := Tryz.checked) false (laidWorld os) #[.slice none 0 0] (World.laidAll_os _ _ _) (by kernel_rfl) (by kernel_rfl) (by kernel_rfl)
   (OpenSpec.preRow_of_cond 8 hx (by kernel_rfl) (fun k hk => by cases hk) (by kernel_rfl) (laid_met os _))) ?_
 intro W base args ds gs before hval0 hW hcnd hcond hsz0 hL hsh _
 have hsz : (DataW.weightsEach Tryz.prog (Tryz.f3.params.toList ++ Rows.showTextsSpec.plain.varTypes Tryz.prog) (ds ++ gs)).all (· ≤ reachBytes) = true := hsz0
 have T : TabB W := laid_tabB hL hsh
 have hval : ∀ (j : Nat) t v, Tryz.f3.params[j]? = some t → args[j]? = some v → Value.okWide Tryz.prog W .any base t v := hval0
 have hW' := hW
 obtain ⟨p, q, hA0, hV, rfl, hfz, hnd⟩ := hW
 have hA : DataW.TrodAll enc Tryz.prog W 0 (fun _ => true) true Tryz.f3.params.toList args.toList ds p := hA0
 rw [Tryz.params3] at hA hval hsz
 obtain ⟨v0, vs0, d0, ds0, p0, q0, hargs, rfl, rfl, h0, r0⟩ := trodAll_cons hA
 obtain ⟨rfl, rfl, rfl⟩ := trodAll_nil r0
 obtain rfl : args = #[v0] := by cases args; simp_all
 obtain ⟨rfl, rfl⟩ := trodVars_none hV
 obtain ⟨a0, len0, cap0, rfl⟩ := okWide_slice Tryz.underlying22 (hval 0 22 v0 rfl rfl)
 have k0 := h0
 have lt0 : ∀ x ∈ p0, x.block < W.heap.size := by obtain ⟨m, hm⟩ := k0; exact DataW.trod_lt m _ _ _ hm
 obtain ⟨xs0, rfl, hcells0, hnil0, hcp0, hok0, hdat0⟩ := open_nodes h0
 have hlen0 : xs0.length * 72 ≤ 140737488351232 := by
  rcases hdat0 with ⟨_, rfl⟩ | ⟨elems, spare, rfl, hle⟩
  ·simp
  ·have := sized_slice hsz (j := 0) (t := 22) (e := 43) rfl rfl Tryz.underlying22
   rw [bytes43] at this
   unfold reachBytes at this
   omega
 clear hA0 hval0
 refine (walk a0 cap0 xs0 W hcells0 hnil0 hcp0.1 hcp0.2 (by omega) hok0 T).mono fun e W' ⟨he, hg⟩ => ?_
 subst he
 have bel : Below W.heap.size W W' := (Below.refl _ _).grown hg (Nat.le_refl _) (by simp)
 exact ⟨_, rfl, _, _, _, [], _, [], hW', trodAll_mk1 (shut_bool Tryz.underlying4 _), (trodAll_cons_mk (Below.trod laidOut (by kernel_rfl) (of_decide_eq_true (by kernel_rfl)) k0 bel lt0) trodAll_mk0), rfl, bel.frame _, fun h => by cases h⟩
theorem over : Rows.ShowTextsSaid :=
 OpenClaim.holds_of_cond 3 Tryz.f3 rfl rfl rfl rfl rfl rfl rfl ⟨rfl, rfl, rfl, rfl, rfl⟩ rfl rfl rfl rfl rfl (by kernel_rfl) Tryz.func3 (by kernel_rfl)
  (of_decide_eq_true (by kernel_rfl)) (by unfold Func.isWrapper; first | (rw [if_pos (by decide +kernel)]; kernel_rfl) | (rw [if_neg (by decide +kernel)]; exact ⟨rfl, rfl⟩))
  (fun os started H enc _ F => by rw [OpenClaim.pre_eq_preRow]; exact lifted os started H enc F)
theorem plain (f : FuncId) (fn : Func) (hf : Tryz.pinned.checked.prog.funcNamed "riddle/riddlelaw13.ShowTexts" = some f) (hfn : Tryz.pinned.checked.prog.funcs[f]? = some fn) :
  true = Tryz.pinned.checked.prog.looks [] ∧ ∀ (j : Nat) t, fn.params[j]? = some t → Tryz.pinned.checked.prog.wantsStandIn t = false := by
 obtain rfl : f = 3 := Option.some.inj ((show Tryz.prog.funcNamed "riddle/riddlelaw13.ShowTexts" = some 3 by kernel_rfl).symm.trans hf) |>.symm
 obtain rfl : fn = Tryz.f3 := (Option.some.inj (Tryz.func3.symm.trans hfn)).symm
 refine ⟨by kernel_rfl, fun j t ht => ?_⟩
 rw [Tryz.params3] at ht
 have ht2 := Array.mem_of_getElem? ht
 simp only [List.mem_toArray, List.mem_cons, List.not_mem_nil, or_false] at ht2
 rcases ht2 with rfl
 ·exact (show Tryz.prog.wantsStandIn 22 = false by kernel_rfl)
theorem card : Rows.ShowTextsCardSaid :=
 Claim7.holds_tied_plain_at .later [] _ _ _ _ over (fun _ h => by cases h) (by kernel_rfl) (fun _ h => by cases h) showTexts_row_tie rfl ⟨rfl, rfl⟩ (by kernel_rfl) rfl plain (by kernel_rfl)

end showTexts
theorem showTexts_holds : Rows.ShowTextsCardSaid := showTexts.card
#print axioms showTexts_holds

end Go.Proofs.YtklipelnjgpnjaaGreatDoor
