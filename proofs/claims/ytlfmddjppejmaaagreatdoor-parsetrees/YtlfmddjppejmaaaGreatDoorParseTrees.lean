/-
 For every string (of such size as the form itself says of each argument) riddlelaw11.ParseTrees returns true and leaves what was there as it was: no condition of ours.
-/
import Derived.Test.YtlfmddjppejmaaaGreatDoorqLotQ43
import Derived.Test.YtlfmddjppejmaaaGreatDoorqLotQ44
import Derived.Test.YtlfmddjppejmaaaGreatDoorqLotQ13
import Derived.Test.YtlfmddjppejmaaaGreatDoorqLotQ16
import Derived.BigQuiet
namespace Go.Proofs.YtlfmddjppejmaaaGreatDoor
open Go.ChangeShapes Go.WideShapes Go.ChangeAt Go.RowKit
open Go.ChangeMaps (open_string shut_string)
set_option maxRecDepth 100000
namespace parseTrees

/-- Rows of two kinds of elements: the one stays where the other is written. -/
theorem two_kinds {w w' : World} {base base' e e' size size' n n' : Nat} {v v' : Value} {vs vs' : List Value} (h : w.ownsRow base e size v n vs) (O : w.ownsRow base' e' size' v' n' vs') (he : e ≠ e') (K : w.grownBy w' v'.ownBlock) : w'.ownsRow base e size v n vs := by
 refine h.kept K ?_
 rcases h.2 with ⟨rfl, -⟩ | ⟨g, cap, cur, rfl, -, hg, -⟩
 ·simp [Value.ownBlock]
 ·rcases O.2 with ⟨rfl, -⟩ | ⟨g', cap', cur', rfl, -, hg', -⟩
  ·simp [Value.ownBlock]
  ·refine .inr fun e1 => ?_
   simp only [Value.ownBlock, Option.some.injEq] at e1
   subst e1
   rw [hg] at hg'
   simp only [Option.some.injEq, Obj.cells.injEq] at hg'
   exact he hg'.2.1
set_option maxRecDepth 100000 in
set_option maxHeartbeats 8000000 in
theorem walk (s : ByteArray) (w : World) (hs : s.size ≤ 140737488351232) (T : S3 w) :
  Calls Tryz.prog 3 #[.string s] w fun e w' => e = .returned (.bool true) ∧ w.grownBy w' none := by
 have HT : Hid (S3 w) := T
 have C0 := a9b s (by omega) w T.2
 have HP : Hid (∀ W : World, S3 W → Calls Tryz.prog 5 #[.string s] W fun e w' => ∃ vt vp, e = .returned (.tuple #[vt, vp, .int .i64 (prP (J1 (sl s)) : Int), .int .i64 (prE (J1 (sl s)))]) ∧ S2 w' W.heap.size vt ((prN (J1 (sl s))).map Prod.fst) ∧ U6 w' W.heap.size vp ((prN (J1 (sl s))).map plc) ∧ W.grownBy w' none) := fun W TW => a2T s (by omega) W TW
 generalize prP (J1 (sl s)) = P at *
 generalize prE (J1 (sl s)) = E at *
 generalize prN (J1 (sl s)) = ns at *
 clear T hs
 have hPP : ((P : Int) != (P : Int)) = false := by simp
 have hEE : (E != E) = false := by simp
 go_enter Tryz.func3, Tryz.ntmps3
 go_wp2_with fail
 refine C0.mono ?_
 rintro e w1 ⟨v0, z0, rfl, O0, Z0, G1, hl⟩
 have hnl : (ns.map Prod.fst).length ≤ 65537 := by rw [List.length_map]; exact hl
 have hzl : (ns.map plc).length ≤ 65537 := by rw [List.length_map]; exact hl
 generalize ns.map Prod.fst = NS at *
 generalize ns.map plc = ZS at *
 have C1 := HP.out w1 (HT.out.grown G1)
 clear C0 hl
 go_wp2_with fail
 refine C1.mono ?_
 rintro e w2 ⟨v1, z1, rfl, O1, Z1, G2⟩
 have C2 := HP.out w2 (HT.out.grown (d5 G1 G2))
 clear C1 HP
 go_wp2_with fail
 refine C2.mono ?_
 rintro e w3 ⟨v2, z2, rfl, O2, Z2, G3⟩
 clear C2
 obtain ⟨a0, c0, rfl, A0, -, -, -, b0, -⟩ := L1 (y8 O0 (d5 G2 G3))
 obtain ⟨p0, d0, rfl, B0, -, -, -, e0, -⟩ := L1 (y8 Z0 (d5 G2 G3))
 obtain ⟨a1, c1, rfl, A1, -, -, -, b1, q1⟩ := L1 (y8 O1 G3)
 obtain ⟨p1, d1, rfl, B1, -, -, -, e1, r1⟩ := L1 (y8 Z1 G3)
 obtain ⟨a2, c2, rfl, A2, -, -, -, b2, -⟩ := L1 O2
 obtain ⟨p2, d2, rfl, B2, -, -, -, e2, -⟩ := L1 Z2
 have HB : Hid ((∀ ad, a0 = some ad → ad.block < w1.heap.size) ∧ (∀ ad, p0 = some ad → ad.block < w1.heap.size) ∧ (∀ ad, a2 = some ad → w2.heap.size ≤ ad.block) ∧ (∀ ad, p2 = some ad → w2.heap.size ≤ ad.block)) :=
  ⟨fun ad h => by subst h; exact (O0.lt ad.block rfl).2, fun ad h => by subst h; exact (Z0.lt ad.block rfl).2, fun ad h => (b2 ad h).1, fun ad h => (e2 ad h).1⟩
 have HV : Hid ((∀ k, (Value.slice a1 NS.length c1).ownBlock = some k → w1.heap.size ≤ k ∧ k < w2.heap.size) ∧ (∀ k, (Value.slice p1 ZS.length d1).ownBlock = some k → w1.heap.size ≤ k ∧ k < w2.heap.size)) := ⟨fun k h => O1.lt k h, fun k h => Z1.lt k h⟩
 have HC : Hid (CV w3 a0 (y6 NS) ∧ CV w3 p0 (ZS.map iv) ∧ CV w3 a2 (y6 NS) ∧ CV w3 p2 (ZS.map iv)) := ⟨A0, B0, A2, B2⟩
 have HO : Hid (S2 w3 w1.heap.size (.slice a1 NS.length c1) NS ∧ U6 w3 w1.heap.size (.slice p1 ZS.length d1) ZS) := ⟨y8 O1 G3, y8 Z1 G3⟩
 have HG : Hid (w.grownBy w3 none ∧ w.heap.size ≤ w1.heap.size) := ⟨d5 (d5 G1 G2) G3, G1.size⟩
 have CS := a4D a1 a0 c1 c0 NS w3 A1 A0 (by omega)
 have HZS : Hid (∀ n, Calls Tryz.prog 7 #[.slice p1 ZS.length d1, .slice p0 ZS.length d0] (w3.drewN n) fun e w' => e = .returned (.bool true) ∧ ∃ n2, w' = (w3.drewN n).drewN n2) := fun n => a3d p1 p0 d1 d0 ZS _ (B1.keptNone (f8 w3 n none)) (B0.keptNone (f8 w3 n none)) (by omega)
 have HL : Hid ((NS.length + 1) * 72 ≤ 140737488355328 ∧ (ZS.length + 1) * 8 ≤ 140737488355328 ∧ NS.length ≤ 9223372036854775807 ∧ ZS.length ≤ 9223372036854775807) := ⟨by omega, by omega, by omega, by omega⟩
 clear O0 Z0 O1 Z1 O2 Z2 A0 B0 A1 B1 A2 B2 b0 e0 b1 e1 b2 e2 q1 r1 hnl hzl G1 G2 G3
 go_wp2_with fail
 refine CS.mono ?_
 rintro e w4 ⟨rfl, n4, rfl⟩
 have CZ := HZS.out n4
 clear CS HZS
 go_wp2_with fail
 refine CZ.mono ?_
 rintro e w4 ⟨rfl, n5, rfl⟩
 have K4 : w3.grownBy ((w3.drewN n4).drewN n5) none := d5 (f8 w3 n4 none) (f8 _ n5 none)
 generalize (w3.drewN n4).drewN n5 = w4 at *
 have HO4 : Hid (S2 w4 w1.heap.size (.slice a1 NS.length c1) NS ∧ U6 w4 w1.heap.size (.slice p1 ZS.length d1) ZS) := ⟨y8 HO.out.1 K4, y8 HO.out.2 K4⟩
 have HC4 : Hid (CV w4 a0 (y6 NS) ∧ CV w4 p0 (ZS.map iv) ∧ CV w4 a2 (y6 NS) ∧ CV w4 p2 (ZS.map iv)) := ⟨HC.out.1.keptNone K4, HC.out.2.1.keptNone K4, HC.out.2.2.1.keptNone K4, HC.out.2.2.2.keptNone K4⟩
 have HG4 : Hid (w.grownBy w4 none) := d5 HG.out.1 K4
 have CP := a8b w4 HO4.out.1 HL.out.1
 clear CZ HO HC K4
 go_wp2_with fail
 refine CP.mono ?_
 rintro e w5 ⟨rfl, K5⟩
 have HO5 : Hid (U6 w5 w1.heap.size (.slice p1 ZS.length d1) ZS) := two_kinds HO4.out.2 HO4.out.1 (by decide) K5
 have HC5 : Hid (CV w5 a0 (y6 NS) ∧ CV w5 p0 (ZS.map iv) ∧ CV w5 a2 (y6 NS) ∧ CV w5 p2 (ZS.map iv)) :=
  ⟨HC4.out.1.keptUp _ HB.out.1 K5 (fun k hk => (HV.out.1 k hk).1), HC4.out.2.1.keptUp _ HB.out.2.1 K5 (fun k hk => (HV.out.1 k hk).1), HC4.out.2.2.1.keptDown _ HB.out.2.2.1 K5 (fun k hk => (HV.out.1 k hk).2), HC4.out.2.2.2.keptDown _ HB.out.2.2.2 K5 (fun k hk => (HV.out.1 k hk).2)⟩
 have HG5 : Hid (w.grownBy w5 none) := z6 HG4.out K5 (fun x hx => Nat.le_trans HG.out.2 (HV.out.1 x hx).1)
 have CQ := ai9 w5 HO5.out HL.out.2.1
 clear CP HO4 HC4 HG4 K5
 go_wp2_with fail
 refine CQ.mono ?_
 rintro e w6 ⟨rfl, K6⟩
 have HC6 : Hid (CV w6 a0 (y6 NS) ∧ CV w6 p0 (ZS.map iv) ∧ CV w6 a2 (y6 NS) ∧ CV w6 p2 (ZS.map iv)) :=
  ⟨HC5.out.1.keptUp _ HB.out.1 K6 (fun k hk => (HV.out.2 k hk).1), HC5.out.2.1.keptUp _ HB.out.2.1 K6 (fun k hk => (HV.out.2 k hk).1), HC5.out.2.2.1.keptDown _ HB.out.2.2.1 K6 (fun k hk => (HV.out.2 k hk).2), HC5.out.2.2.2.keptDown _ HB.out.2.2.2 K6 (fun k hk => (HV.out.2 k hk).2)⟩
 have HG6 : Hid (w.grownBy w6 none) := z6 HG5.out K6 (fun x hx => Nat.le_trans HG.out.2 (HV.out.2 x hx).1)
 have CS := a4D a2 a0 c2 c0 NS w6 HC6.out.2.2.1 HC6.out.1 HL.out.2.2.1
 have HZS : Hid (∀ n, Calls Tryz.prog 7 #[.slice p2 ZS.length d2, .slice p0 ZS.length d0] (w6.drewN n) fun e w' => e = .returned (.bool true) ∧ ∃ n2, w' = (w6.drewN n).drewN n2) := fun n => a3d p2 p0 d2 d0 ZS _ (HC6.out.2.2.2.keptNone (f8 w6 n none)) (HC6.out.2.1.keptNone (f8 w6 n none)) HL.out.2.2.2
 clear CQ HO5 HC5 HG5 K6 HC6 HB HV HL
 go_wp2_with fail
 refine CS.mono ?_
 rintro e w7 ⟨rfl, n7, rfl⟩
 have CZ := HZS.out n7
 clear CS HZS
 go_wp2_with fail
 refine CZ.mono ?_
 rintro e w7 ⟨rfl, n8, rfl⟩
 have HG7 : Hid (w.grownBy ((w6.drewN n7).drewN n8) none) := d5 HG6.out (d5 (f8 w6 n7 none) (f8 _ n8 none))
 generalize (w6.drewN n7).drewN n8 = w7 at *
 have CA := a5R w7 (HT.out.grown HG7.out)
 clear CZ HG6
 go_wp2_with fail
 refine CA.mono ?_
 rintro e w8 ⟨rfl, K8⟩
 have G8 := d5 HG7.out K8
 clear CA K8
 go_wp2
 go_ret
 exact ⟨rfl, G8⟩
set_option maxRecDepth 100000 in
theorem lifted (os : Os) (started : os.Started) (H : Type) (enc : TypeId × Value → H) (F : Stop.Interp) :
  ReturnsInHanded {} Tryz.checked os 3 .any ((OpenSpec.ofChange Rows.parseTreesSpec).preRow enc Tryz.prog Tryz.f3 Rows.parseTreesRow.domain false Rows.parseTreesRow.laid) (((OpenSpec.ofChange Rows.parseTreesSpec).at F).post enc Tryz.prog Tryz.f3 false true false false) := by
 have hx : DataW.whole enc Tryz.prog ((a2A os).forCall (fun _ _ => 0) ⟨#[], #[.string .empty], []⟩).memory Tryz.f3.params.toList Rows.parseTreesSpec.vars false (#[.string .empty] : Array Value).toList 8 = some ([.lit (.string [])], [], []) := by kernel_rfl
 refine returnsInHanded_of_row (C := Tryz.checked) (s := (OpenSpec.ofChange Rows.parseTreesSpec)) own started (by kernel_rfl) Tryz.func3
  (witness_row_atRef (enc := enc) (C := Tryz.checked) false (a2A os) #[.string .empty] (World.laidAll_os _ _ _) (by kernel_rfl) (by kernel_rfl) (by kernel_rfl)
   (OpenSpec.preRow_of_cond 8 hx (by kernel_rfl) (fun k hk => by cases hk) (by kernel_rfl) (a7v os _))) ?_
 intro W base args ds gs before hval0 hW hcnd hcond hsz0 hL hsh _
 have hsz : (DataW.weightsEach Tryz.prog (Tryz.f3.params.toList ++ Rows.parseTreesSpec.plain.varTypes Tryz.prog) (ds ++ gs)).all (· ≤ reachBytes) = true := hsz0
 have T : S3 W := a7x hL hsh
 have hval : ∀ (j : Nat) t v, Tryz.f3.params[j]? = some t → args[j]? = some v → Value.okWide Tryz.prog W .any base t v := hval0
 have hW' := hW
 obtain ⟨p, q, hA0, hV, rfl, hfz, hnd⟩ := hW
 have hA : DataW.TrodAll enc Tryz.prog W 0 (fun _ => true) true Tryz.f3.params.toList args.toList ds p := hA0
 rw [Tryz.params3] at hA hval hsz
 obtain ⟨v0, vs0, d0, ds0, p0, q0, hargs, rfl, rfl, h0, r0⟩ := trodAll_cons hA
 obtain ⟨rfl, rfl, rfl⟩ := trodAll_nil r0
 obtain rfl : args = #[v0] := by cases args; simp_all
 obtain ⟨rfl, rfl⟩ := trodVars_none hV
 obtain ⟨s0, rfl, rfl, rfl, hs0⟩ := open_string Tryz.underlying9 (hval 0 9 v0 rfl rfl) h0
 have hlen0 : s0.size ≤ 140737488351232 := by
  have h := sized_string hsz (j := 0) (t := 9) rfl rfl
  unfold reachBytes at h
  have e : s0.data.toList.length = s0.size := by rw [Array.length_toList]; rfl
  omega
 clear hA0 hval0
 refine (walk s0 W hlen0 T).mono fun e W' ⟨he, hg⟩ => ?_
 subst he
 have bel : Below W.heap.size W W' := (Below.refl _ _).grown hg (Nat.le_refl _) (by simp)
 exact ⟨_, rfl, _, _, _, [], _, [], hW', trodAll_mk1 (shut_bool Tryz.underlying4 _), (trodAll_cons_mk (shut_string Tryz.underlying9 hs0) trodAll_mk0), rfl, bel.frame _, fun h => by cases h⟩
theorem over : Rows.ParseTreesSaid :=
 OpenClaim.holds_of_cond 3 Tryz.f3 rfl rfl rfl rfl rfl rfl rfl ⟨rfl, rfl, rfl, rfl, rfl⟩ rfl rfl rfl rfl rfl (by kernel_rfl) Tryz.func3 (by kernel_rfl)
  (of_decide_eq_true (by kernel_rfl)) (by unfold Func.isWrapper; first | (rw [if_pos (by decide +kernel)]; kernel_rfl) | (rw [if_neg (by decide +kernel)]; exact ⟨rfl, rfl⟩))
  (fun os started H enc _ F => by rw [OpenClaim.pre_eq_preRow]; exact lifted os started H enc F)
theorem plain (f : FuncId) (fn : Func) (hf : Tryz.pinned.checked.prog.funcNamed "riddle/riddlelaw11.ParseTrees" = some f) (hfn : Tryz.pinned.checked.prog.funcs[f]? = some fn) :
  true = Tryz.pinned.checked.prog.looks [] ∧ ∀ (j : Nat) t, fn.params[j]? = some t → Tryz.pinned.checked.prog.wantsStandIn t = false := by
 obtain rfl : f = 3 := Option.some.inj ((show Tryz.prog.funcNamed "riddle/riddlelaw11.ParseTrees" = some 3 by kernel_rfl).symm.trans hf) |>.symm
 obtain rfl : fn = Tryz.f3 := (Option.some.inj (Tryz.func3.symm.trans hfn)).symm
 refine ⟨by kernel_rfl, fun j t ht => ?_⟩
 rw [Tryz.params3] at ht
 have ht2 := Array.mem_of_getElem? ht
 simp only [List.mem_toArray, List.mem_cons, List.not_mem_nil, or_false] at ht2
 rcases ht2 with rfl
 ·exact (show Tryz.prog.wantsStandIn 9 = false by kernel_rfl)
theorem card : Rows.ParseTreesCardSaid :=
 Claim7.holds_tied_plain_at .later [] _ _ _ _ over (fun _ h => by cases h) (by kernel_rfl) (fun _ h => by cases h) parseTrees_row_tie rfl ⟨rfl, rfl⟩ (by kernel_rfl) rfl plain (by kernel_rfl)

end parseTrees
theorem parseTrees_holds : Rows.ParseTreesCardSaid := parseTrees.card
#print axioms parseTrees_holds

end Go.Proofs.YtlfmddjppejmaaaGreatDoor
