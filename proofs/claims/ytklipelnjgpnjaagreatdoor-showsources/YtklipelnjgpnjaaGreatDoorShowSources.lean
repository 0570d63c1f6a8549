/-
 For every text (of such size as the form itself says of it) riddlelaw13.ShowSources returns true and leaves what was there as it was: no condition of ours.
-/
import Derived.Test.YtklipelnjgpnjaaGreatDoorLotS35
import Derived.Test.YtklipelnjgpnjaaGreatDoorLotS36
import Derived.Test.YtklipelnjgpnjaaGreatDoorLotS46
import Derived.Test.YtklipelnjgpnjaaGreatDoorLotS47
import Derived.Test.YtklipelnjgpnjaaGreatDoorLotS11
import Derived.Deep.DeepCutAuto
namespace Go.Proofs.YtklipelnjgpnjaaGreatDoor
open Go.ChangeShapes Go.WideShapes Go.ChangeAt Go.RowKit
open Go.ChangeMaps (open_string shut_string)
set_option maxRecDepth 100000
namespace showSources
set_option maxRecDepth 100000 in
set_option maxHeartbeats 16000000 in
theorem walk (s : ByteArray) (w : World) (hs : s.size ≤ 140737488351232) (T : a1e w) :
  Calls Tryz.prog 5 #[.string s] w fun e w' => e = .returned (.bool true) ∧ w.grownBy w' none := by
 have HT : Hid (a1e w) := T
 have HAW : Hid (∀ W, w.grownBy W none → Calls Tryz.prog 14 #[] W fun e w' => e = .returned (.bool true) ∧ W.grownBy w' none) := fun W K => ai9 W (T.2.grown K)
 cases hp : a08 (sl s) with
 | error x =>
  have HC : Hid (Calls _ _ _ _ _) := aM1 hp (by omega) w T
  have hb : (x.2 != 0) = true := by rw [bne_iff_ne]; exact aX8 hp
  generalize x.2 = c at *
  clear hp T x
  go_enter Tryz.func5, Tryz.ntmps5
  go_wp2_with fail
  refine HC.out.mono ?_
  rintro e1 w1 ⟨vt, vp, p, rfl, K1⟩
  have HK1 : Hid (w.grownBy w1 none) := K1
  clear HC K1
  go_wp2_with fail
  refine (HAW.out w1 HK1.out).mono ?_
  rintro e2 w2 ⟨rfl, K2⟩
  go_wp2
  go_ret
  exact ⟨rfl, d3 HK1.out K2⟩
 | ok ns =>
  obtain ⟨hok, U, hU, hf, hd⟩ := aM3 hp
  obtain ⟨t, ht⟩ : ∃ t, ns.map (·.1.g) = t := ⟨_, rfl⟩
  rw [ht] at hf
  have hlen : t.length ≤ 65537 := by rw [← ht, List.length_map]; exact aX9 hp
  have hao : ∀ x ∈ t, x.ok := fun x hx => by
   rw [← ht] at hx
   obtain ⟨y, hy, rfl⟩ := List.mem_map.1 hx
   exact hok y hy
  have hn : ∀ x ∈ t, x.n ≤ 4294967295 := fun x hx => (hao x hx).1
  have hmm : ∀ x ∈ t, x.m ≤ 4294967295 := fun x hx => (hao x hx).2.1
  have hsl : s = ⟨(sl s).toArray⟩ := by
   unfold sl
   rw [Array.toArray_toList]
  have HC : Hid (Calls Tryz.prog 17 #[.string s] w fun e w' => ∃ ao cap vp, e = .returned (.tuple #[.slice ao t.length cap, vp, .int .i64 0, .int .i64 0]) ∧ CV w' ao (D6 t) ∧ (ao = none → cap = 0) ∧ w.grownBy w' none) := by
   have := a9N hp ht (by unfold sl; rw [Array.length_toList]; show s.size ≤ _; omega) w T
   rw [← hsl] at this
   exact this
  have HCN : Hid (∀ (ao : Option Addr) (cap : Nat) W, CV W ao (D6 t) → (ao = none → cap = 0) → Calls Tryz.prog 15 #[.slice ao t.length cap] W fun e w' => ∃ v, e = .returned v ∧ a4l w' W.heap.size v t ∧ W.grownBy w' none) := fun ao cap W C h0 => au1 ao cap t W C h0 (by omega)
  have HCK : Hid (∀ (ao : Option Addr) (cap : Nat) W, CV W ao (D6 t) → Calls Tryz.prog 16 #[.slice ao t.length cap] W fun e w' => e = .returned (.tuple #[.int .i64 ((M8 t).1 : Int), .int .i64 (M8 t).2]) ∧ W.grownBy w' none) := fun ao cap W C => a8d ao cap t W C (by omega) hn
  have HL9 : Hid (t.length ≤ 9223372036854775807) := by show _ ≤ _; omega
  by_cases hc : (M8 t).2 = 0
  ·have hr : a0T false U = .tuple #[.string ⟨(U.txt false).1.toArray⟩, .int .i64 0] := by
    unfold a0T
    rw [if_neg (by omega)]
   have CS : ∀ (ao : Option Addr) (cap : Nat) W, w.grownBy W none → CV W ao (D6 t) → Calls Tryz.prog 11 #[.slice ao t.length cap] W fun e w' => e = .returned (.tuple #[.string ⟨(U.txt false).1.toArray⟩, .int .i64 0]) ∧ W.grownBy w' none := fun ao cap W G C => by
    rw [← hr]
    exact ab5 ao cap t U hU hf hc hn hmm W (T.2.grown G) C
   obtain ⟨ms, m1, m2⟩ := as0 hc hao hU hf hd
   have hl := (a8s hc hao hU hf).2.2.2 false
   have PT : ∀ W, w.grownBy W none → Calls Tryz.prog 17 #[.string ⟨(U.txt false).1.toArray⟩] W fun e w' => ∃ ao cap vp, e = .returned (.tuple #[.slice ao t.length cap, vp, .int .i64 0, .int .i64 0]) ∧ CV w' ao (D6 t) ∧ (ao = none → cap = 0) ∧ W.grownBy w' none := fun W G => a9N m1 m2 (by omega) W (T.grown G)
   obtain ⟨B, hB⟩ : ∃ B : ByteArray, (⟨(U.txt false).1.toArray⟩ : ByteArray) = B := ⟨_, rfl⟩
   rw [hB] at CS PT
   have HS : Hid (∀ (ao : Option Addr) (cap : Nat) W, w.grownBy W none → CV W ao (D6 t) → Calls Tryz.prog 11 #[.slice ao t.length cap] W fun e w' => e = .returned (.tuple #[.string B, .int .i64 0]) ∧ W.grownBy w' none) := CS
   have HP : Hid (∀ W, w.grownBy W none → Calls Tryz.prog 17 #[.string B] W fun e w' => ∃ ao cap vp, e = .returned (.tuple #[.slice ao t.length cap, vp, .int .i64 0, .int .i64 0]) ∧ CV w' ao (D6 t) ∧ (ao = none → cap = 0) ∧ W.grownBy w' none) := PT
   rw [hc] at HCK
   generalize (M8 t).1 = cp at *
   clear CS PT hB hl m1 m2 ms hr hc hn hmm hao hlen ht hf hd hU hok hp hsl T
   go_enter Tryz.func5, Tryz.ntmps5
   go_wp2_with fail
   refine HC.out.mono ?_
   rintro x1 w1 ⟨a1, c1, vp1, rfl, C1, h01, K1⟩
   have HC1 : Hid (∀ W, w1.grownBy W none → CV W a1 (D6 t)) := fun W K => C1.keptNone K
   have H01 : Hid (a1 = none → c1 = 0) := h01
   have G1 : Hid (w.grownBy w1 none) := K1
   have HX : Hid (Calls _ _ _ _ _) := HCN.out a1 c1 w1 C1 h01
   clear C1 h01 K1 HC
   go_wp2_with fail
   refine HX.out.mono ?_
   rintro x2 w2 ⟨v2, rfl, O2, K2⟩
   obtain ⟨a2, c2, rfl, D2, -⟩ := T0 O2
   have G2 : Hid (w1.grownBy w2 none) := K2
   have HX : Hid (Calls _ _ _ _ _) := HCK.out a2 c2 w2 D2
   clear O2 D2 K2 HCK
   go_wp2_with fail
   refine HX.out.mono ?_
   rintro x3 w3 ⟨rfl, K3⟩
   have G3 : Hid (w1.grownBy w3 none) := d3 G2.out K3
   have HX : Hid (Calls _ _ _ _ _) := HCN.out a1 c1 w3 (HC1.out w3 G3.out) H01.out
   clear K3 G2
   go_wp2_with fail
   refine HX.out.mono ?_
   rintro x4 w4 ⟨v4, rfl, O4, K4⟩
   obtain ⟨a4, c4, rfl, D4, -⟩ := T0 O4
   have G4 : Hid (w1.grownBy w4 none) := d3 G3.out K4
   have HX : Hid (Calls _ _ _ _ _) := HS.out a4 c4 w4 (d3 G1.out G4.out) D4
   clear O4 D4 K4 G3 HCN
   go_wp2_with fail
   refine HX.out.mono ?_
   rintro x5 w5 ⟨rfl, K5⟩
   have G5 : Hid (w1.grownBy w5 none) := d3 G4.out K5
   have HX : Hid (Calls _ _ _ _ _) := HP.out w5 (d3 G1.out G5.out)
   clear K5 G4
   go_wp2_with fail
   refine HX.out.mono ?_
   rintro x6 w6 ⟨a6, c6, vp6, rfl, C6, -, K6⟩
   have G6 : Hid (w1.grownBy w6 none) := d3 G5.out K6
   have HC6 : Hid (∀ W, w6.grownBy W none → CV W a6 (D6 t)) := fun W K => C6.keptNone K
   have HX : Hid (Calls _ _ _ _ _) := HS.out a6 c6 w6 (d3 G1.out G6.out) C6
   clear K6 G5 C6 HP HS
   go_wp2_with fail
   refine HX.out.mono ?_
   rintro x7 w7 ⟨rfl, K7⟩
   have G7 : Hid (w1.grownBy w7 none) := d3 G6.out K7
   have HX : Hid (Calls _ _ _ _ _) := av7 a6 a1 c6 c1 t w7 (HC6.out w7 K7) (HC1.out w7 G7.out) HL9.out
   clear K7 G6
   go_wp2_with fail
   refine HX.out.mono ?_
   rintro x8 w8 ⟨rfl, n8, rfl⟩
   have G8 : Hid (w.grownBy (w7.drewN n8) none) := d3 G1.out (d3 G7.out (f4 _ _ none))
   generalize w7.drewN n8 = w8 at *
   have HX : Hid (Calls _ _ _ _ _) := HAW.out w8 G8.out
   clear G7 HAW
   go_wp2_with fail
   refine HX.out.mono ?_
   rintro x9 w9 ⟨rfl, K9⟩
   go_wp2
   go_ret
   exact ⟨rfl, d3 G8.out K9⟩
  ·have hb : ((M8 t).2 != 0) = true := by rw [bne_iff_ne]; exact hc
   generalize (M8 t).1 = cp at *
   generalize (M8 t).2 = cc at *
   clear hc hn hmm hao hlen ht hf hd hU hok hp hsl T
   go_enter Tryz.func5, Tryz.ntmps5
   go_wp2_with fail
   refine HC.out.mono ?_
   rintro x1 w1 ⟨a1, c1, vp1, rfl, C1, h01, K1⟩
   have G1 : Hid (w.grownBy w1 none) := K1
   have HX : Hid (Calls _ _ _ _ _) := HCN.out a1 c1 w1 C1 h01
   clear C1 h01 K1 HC
   go_wp2_with fail
   refine HX.out.mono ?_
   rintro x2 w2 ⟨v2, rfl, O2, K2⟩
   obtain ⟨a2, c2, rfl, D2, -⟩ := T0 O2
   have G2 : Hid (w.grownBy w2 none) := d3 G1.out K2
   have HX : Hid (Calls _ _ _ _ _) := HCK.out a2 c2 w2 D2
   clear O2 D2 K2 HCK G1
   go_wp2_with fail
   refine HX.out.mono ?_
   rintro x3 w3 ⟨rfl, K3⟩
   have G3 : Hid (w.grownBy w3 none) := d3 G2.out K3
   have HX : Hid (Calls _ _ _ _ _) := HAW.out w3 G3.out
   clear K3 G2 HAW
   go_wp2_with fail
   refine HX.out.mono ?_
   rintro x9 w9 ⟨rfl, K9⟩
   go_wp2
   go_ret
   exact ⟨rfl, d3 G3.out K9⟩
set_option maxRecDepth 100000 in
theorem lifted (os : Os) (started : os.Started) (H : Type) (enc : TypeId × Value → H) (F : Stop.Interp) :
  ReturnsInHanded {} Tryz.checked os 5 .any ((OpenSpec.ofChange Rows.showSourcesSpec).preRow enc Tryz.prog Tryz.f5 Rows.showSourcesRow.domain false Rows.showSourcesRow.laid) (((OpenSpec.ofChange Rows.showSourcesSpec).at F).post enc Tryz.prog Tryz.f5 false true false false) := by
 have hx : DataW.whole enc Tryz.prog ((a6s os).forCall (fun _ _ => 0) ⟨#[], #[.string .empty], []⟩).memory Tryz.f5.params.toList Rows.showSourcesSpec.vars false (#[.string .empty] : Array Value).toList 8 = some ([.lit (.string [])], [], []) := by kernel_rfl
 refine returnsInHanded_of_row (C := Tryz.checked) (s := (OpenSpec.ofChange Rows.showSourcesSpec)) own started (by kernel_rfl) Tryz.func5
  (witness_row_atRef (enc := enc) (C := Tryz.checked) false (a6s os) #[.string .empty] (World.laidAll_os _ _ _) (by kernel_rfl) (by kernel_rfl) (by kernel_rfl)
   (OpenSpec.preRow_of_cond 8 hx (by kernel_rfl) (fun k hk => by cases hk) (by kernel_rfl) (aA0 os _))) ?_
 intro W base args ds gs before hval0 hW hcnd hcond hsz0 hL hsh _
 have hsz : (DataW.weightsEach Tryz.prog (Tryz.f5.params.toList ++ Rows.showSourcesSpec.plain.varTypes Tryz.prog) (ds ++ gs)).all (· ≤ reachBytes) = true := hsz0
 have T : a1e W := aA3 hL hsh
 have hval : ∀ (j : Nat) t v, Tryz.f5.params[j]? = some t → args[j]? = some v → Value.okWide Tryz.prog W .any base t v := hval0
 have hW' := hW
 obtain ⟨p, q, hA0, hV, rfl, hfz, hnd⟩ := hW
 have hA : DataW.TrodAll enc Tryz.prog W 0 (fun _ => true) true Tryz.f5.params.toList args.toList ds p := hA0
 rw [Tryz.params5] at hA hval hsz
 obtain ⟨v0, vs0, d0, ds0, p0, q0, hargs, rfl, rfl, h0, r0⟩ := trodAll_cons hA
 obtain ⟨rfl, rfl, rfl⟩ := trodAll_nil r0
 obtain rfl : args = #[v0] := by cases args; simp_all
 obtain ⟨rfl, rfl⟩ := trodVars_none hV
 obtain ⟨s0, rfl, rfl, rfl, hs0⟩ := open_string Tryz.underlying9 (hval 0 9 v0 rfl rfl) h0
 have hlen0 : s0.size ≤ 140737488351232 := by
  have h := sized_string hsz (j := 0) (t := 9) rfl rfl
  unfold reachBytes at h
  have e : s0.data.toList.length = s0.size := by rw [Array.length_toList]; rfl
  omega
 clear hA0 hval0
 refine (walk s0 W hlen0 T).mono fun e W' ⟨he, hg⟩ => ?_
 subst he
 have bel : Below W.heap.size W W' := (Below.refl _ _).grown hg (Nat.le_refl _) (by simp)
 exact ⟨_, rfl, _, _, _, [], _, [], hW', trodAll_mk1 (shut_bool Tryz.underlying4 _), (trodAll_cons_mk (shut_string Tryz.underlying9 hs0) trodAll_mk0), rfl, bel.frame _, fun h => by cases h⟩
theorem over : Rows.ShowSourcesSaid :=
 OpenClaim.holds_of_cond 5 Tryz.f5 rfl rfl rfl rfl rfl rfl rfl ⟨rfl, rfl, rfl, rfl, rfl⟩ rfl rfl rfl rfl rfl (by kernel_rfl) Tryz.func5 (by kernel_rfl)
  (of_decide_eq_true (by kernel_rfl)) (by unfold Func.isWrapper; first | (rw [if_pos (by decide +kernel)]; kernel_rfl) | (rw [if_neg (by decide +kernel)]; exact ⟨rfl, rfl⟩))
  (fun os started H enc _ F => by rw [OpenClaim.pre_eq_preRow]; exact lifted os started H enc F)
theorem plain (f : FuncId) (fn : Func) (hf : Tryz.pinned.checked.prog.funcNamed "riddle/riddlelaw13.ShowSources" = some f) (hfn : Tryz.pinned.checked.prog.funcs[f]? = some fn) :
  true = Tryz.pinned.checked.prog.looks [] ∧ ∀ (j : Nat) t, fn.params[j]? = some t → Tryz.pinned.checked.prog.wantsStandIn t = false := by
 obtain rfl : f = 5 := Option.some.inj ((show Tryz.prog.funcNamed "riddle/riddlelaw13.ShowSources" = some 5 by kernel_rfl).symm.trans hf) |>.symm
 obtain rfl : fn = Tryz.f5 := (Option.some.inj (Tryz.func5.symm.trans hfn)).symm
 refine ⟨by kernel_rfl, fun j t ht => ?_⟩
 rw [Tryz.params5] at ht
 have ht2 := Array.mem_of_getElem? ht
 simp only [List.mem_toArray, List.mem_cons, List.not_mem_nil, or_false] at ht2
 rcases ht2 with rfl
 ·exact (show Tryz.prog.wantsStandIn 9 = false by kernel_rfl)
theorem card : Rows.ShowSourcesCardSaid :=
 Claim7.holds_tied_plain_at .later [] _ _ _ _ over (fun _ h => by cases h) (by kernel_rfl) (fun _ h => by cases h) showSources_row_tie rfl ⟨rfl, rfl⟩ (by kernel_rfl) rfl plain (by kernel_rfl)

end showSources
theorem showSources_holds : Rows.ShowSourcesCardSaid := showSources.card
#print axioms showSources_holds

end Go.Proofs.YtklipelnjgpnjaaGreatDoor
