/-
 For every list of nodes, link, way and bytes riddlelaw14.MeanValues returns true and leaves what was there as it was: no condition of ours.
-/
import Derived.Test.YtcodofamdhcfiaaGreatLotP47
import Derived.Test.YtcodofamdhcfiaaGreatLotP28
import Derived.Test.YtcodofamdhcfiaaGreatLotP22
namespace Go.Proofs.YtcodofamdhcfiaaGreat
open Go.ChangeShapes Go.WideShapes Go.ChangeAt Go.RowKit
set_option maxRecDepth 100000
namespace meanValues
theorem wpList_link {P : Program} {ops : Array Oper} {rest : List Oper} {o : Oper} {a : Act} {w : World} {Q : Exit → Act → World → Prop} (hgd : o.guard = none) (ty : TypeId) (x : Operand) (ho : o.op = .load ty x) (g : Nat) (hx : a.eval x = .pointer (some ⟨g, 0, none⟩)) (cs : Array Value) (d : TypeDesc) (A : VAt w g ty cs)
  (hu : P.underlying ty = some d) (hd : (match d with | .struct _ | .array _ _ => true | _ => false) = true) (hi : (P.info? ty).map (·.size) = some cs.size) (h : wpList P ops Q rest (a.put o.dst (.agg cs)) w) : wpList P ops Q (o :: rest) a w := wpList_load_row hgd ty x ho g hx ty cs (0, 0) d A hu hd hi h
set_option maxRecDepth 100000 in
set_option maxHeartbeats 8000000 in
theorem walk (ao : Option Addr) (cap : Nat) (t : List Ng) (l : Lk) (way : Int) (a : Option Addr) (ca : Nat) (b : List UInt8) (w : World) (hA : CV w ao (flatG t)) (ha0 : ao = none → cap = 0) (_hac : t.length ≤ cap) (_hax : cap ≤ maxLen) (hal : t.length * 72 ≤ 140737488351232) (hao : ∀ x ∈ t, x.ok) (hb : Cells w a b) (hb0 : a = none → ca = 0) (hbn : b.length ≤ 140737488351232) (hcap : b.length ≤ ca) :
  Calls Tryz.prog 4 #[.slice ao t.length cap, .agg (lkA l), .int .i64 way, .slice a b.length ca] w fun e w' => e = .returned (.bool true) ∧ w.grownBy w' none := by
 have HN : Hid (∀ x ∈ t, x.n ≤ 4294967295) := fun x hx => (hao x hx).1
 have HBL := box_lk l
 have L1 := VAt.alloc w 24 (lkA l)
 have K1 := World.grownBy_alloc w (.cells (lkA l) 24) none
 have HLS := lk_sz l
 have HA : Hid (∀ W, w.grownBy W none → CV W ao (flatG t)) := fun W K => hA.keptNone K
 have HB : Hid (∀ W, w.grownBy W none → Cells W a b) := fun W K => hb.keptNone K
 have HLN : Hid (∀ W, w.grownBy W none → Calls Tryz.prog 6 #[.slice ao t.length cap] W fun e w' => ∃ v, e = .returned v ∧ GLent w' W.heap.size v t ∧ W.grownBy w' none) := fun W K => glend_any ao cap t W (hA.keptNone K) ha0 hal
 have HLB : Hid (∀ W, w.grownBy W none → Calls Tryz.prog 7 #[.slice a b.length ca] W fun e w' => ∃ v, e = .returned v ∧ Lent w' W.heap.size v b ∧ W.grownBy w' none) := fun W K => lend_any a ca b W (hb.keptNone K) hb0 hbn
 have HSZ : Hid (t.length * 72 ≤ 140737488351232 ∧ b.length ≤ 140737488351232) := ⟨hal, hbn⟩
 have HRF : Hid (∀ W, w.grownBy W none → Calls Tryz.prog 13 #[.slice ao t.length cap, .agg (lkA l), .int .i64 way, .slice a b.length ca] W fun e w' => e = .returned (valueA t l way b) ∧ W.grownBy w' none) := fun W K => refvalue14_any ao cap t l way a ca b W (hA.keptNone K) ha0 (by omega) HN.out (hb.keptNone K) (by omega) hcap
 have HJ : Hid (∀ W ao' cap' a' ca', CV W ao' (flatG t) → ao' ≠ none → Cells W a' b → b.length ≤ ca' → Calls Tryz.prog 14 #[.slice ao' t.length cap', .agg (lkA l), .int .i64 way, .slice a' b.length ca'] W fun e w' => e = .returned (valueA t l way b) ∧ W.grownBy w' none) := fun W ao' cap' a' ca' h1 h0 h2 h3 => value_any ao' cap' t l way a' ca' b W h1 (fun e => absurd e h0) (by omega) HN.out h2 (by omega) h3
 obtain ⟨LA, hLA⟩ : ∃ LA, lkA l = LA := ⟨_, rfl⟩
 rw [hLA] at HBL L1 K1 HLS HRF HJ ⊢
 clear hLA hA ha0 hal hao hb hb0 hbn hcap
 obtain ⟨vv, hh, E, hv⟩ : ∃ (vv : Nat) (hh E : Int), valueA t l way b = .tuple #[.int .u32 (vv : Int), .int .i64 hh, .int .i64 E] := by
  unfold valueA
  split
  ·exact ⟨0, 0, _, rfl⟩
  ·exact ⟨_, _, _, rfl⟩
 rw [hv] at HRF HJ
 clear hv
 have eV : ((vv : Int) == (vv : Int)) = true := by simp
 have eJ : (hh == hh) = true := by simp
 have eE : (E == E) = true := by simp
 go_enter Tryz.func4, Tryz.ntmps4
 go_upto_region 1 with fail
 generalize w.alloc (.cells LA 24) = w1 at *
 have HW0 : Hid (w.heap.size ≤ w.heap.size) := Nat.le_refl _
 obtain ⟨B, hB⟩ : ∃ B, w.heap.size = B := ⟨_, rfl⟩
 rw [hB] at L1 ⊢
 have HBE : Hid (w.heap.size = B) := hB
 have HV1 : Hid (VAt w1 B 24 LA ∧ w.grownBy w1 none) := ⟨L1, K1⟩
 clear HBL L1 K1 hB HW0
 go_wp2_with (refine wpList_link rfl 24 (.tmp 5) rfl B rfl LA _ HV1.out.1 Tryz.underlying24 rfl HLS ?_)
 refine (HRF.out w1 HV1.out.2).mono ?_
 rintro e w2 ⟨rfl, K2⟩
 have HV2 : Hid (VAt w2 B 24 LA ∧ w.grownBy w2 none) := ⟨HV1.out.1.kept K2, grown_trans HV1.out.2 K2⟩
 clear K2 HV1 HRF
 go_wp2_with fail
 refine (HLN.out w2 HV2.out.2).mono ?_
 rintro e w3 ⟨v3, rfl, ⟨g3, cp3, rfl, hc1, hc2, hg1, hg2, O3⟩, K3⟩
 have HN3 : Hid (w3.ownsRow w2.heap.size 52 24 (.slice (some ⟨g3, 0, none⟩) (t.length + 3) cp3) (t.length + 3) (flatG (t ++ [mkN, mkN, mkN])) ∧ w.heap.size ≤ g3 ∧ VAt w3 B 24 LA ∧ w.grownBy w3 none ∧ g3 < w3.heap.size ∧ w2.heap.size ≤ g3) := ⟨O3, Nat.le_trans HV2.out.2.size hg1, HV2.out.1.kept K3, grown_trans HV2.out.2 K3, hg2, hg1⟩
 clear hc1 hc2 hg1 hg2 O3 K3
 go_wp2_with fail
 refine (HLB.out w3 HN3.out.2.2.2.1).mono ?_
 rintro e w4 ⟨v4, rfl, ⟨g4, cp4, rfl, hc1, hc2, hg1, hg2, O4⟩, K4⟩
 have HN4 : Hid (w4.ownsRow w2.heap.size 52 24 (.slice (some ⟨g3, 0, none⟩) (t.length + 3) cp3) (t.length + 3) (flatG (t ++ [mkN, mkN, mkN])) ∧ w.heap.size ≤ g3 ∧ VAt w4 B 24 LA ∧ w.grownBy w4 none ∧ w4.ownsRow w3.heap.size 5 1 (.slice (some ⟨g4, 0, none⟩) (b.length + 3) cp4) (b.length + 3) ((b ++ [201, 201, 201]).map bv) ∧ w.heap.size ≤ g4 ∧ g3 ≠ g4 ∧ b.length ≤ cp4 ∧ B ≠ g3 ∧ B ≠ g4) := ⟨owns_keptNone HN3.out.1 K4, HN3.out.2.1, HN3.out.2.2.1.kept K4, grown_trans HN3.out.2.2.2.1 K4, O4, Nat.le_trans HN3.out.2.2.2.1.size hg1, by have := HN3.out.2.2.2.2.1; omega, by omega, by have := HN3.out.2.2.2.2.2; have := HV2.out.1.lt; omega, by have := HN3.out.2.2.1.lt; omega⟩
 clear hc1 hc2 hg1 hg2 O4 K4 HN3 HV2
 go_upto_region 3 with fail
 go_wp2_with (refine wpList_link rfl 24 (.tmp 5) rfl B rfl LA _ HN4.out.2.2.1 Tryz.underlying24 rfl HLS ?_)
 refine (HJ.out w4 (some ⟨g3, 0, none⟩) cp3 (some ⟨g4, 0, none⟩) cp4 (gcv_front HN4.out.1).1 (by simp) (cells_front HN4.out.2.2.2.2.1).1 HN4.out.2.2.2.2.2.2.2.1).mono ?_
 rintro e w5 ⟨rfl, K5⟩
 have HN5 : Hid (w5.ownsRow 0 52 24 (.slice (some ⟨g3, 0, none⟩) (t.length + 3) cp3) (t.length + 3) (flatG (t ++ [mkN, mkN, mkN])) ∧ w.heap.size ≤ g3 ∧ VAt w5 B 24 LA ∧ w.grownBy w5 none ∧ w5.ownsRow 0 5 1 (.slice (some ⟨g4, 0, none⟩) (b.length + 3) cp4) (b.length + 3) ((b ++ [201, 201, 201]).map bv) ∧ w.heap.size ≤ g4 ∧ g3 ≠ g4 ∧ B ≠ g3 ∧ B ≠ g4) := ⟨owns_mono (owns_keptNone HN4.out.1 K5) (Nat.zero_le _), HN4.out.2.1, HN4.out.2.2.1.kept K5, grown_trans HN4.out.2.2.2.1 K5, owns_mono (owns_keptNone HN4.out.2.2.2.2.1 K5) (Nat.zero_le _), HN4.out.2.2.2.2.2.1, HN4.out.2.2.2.2.2.2.1, HN4.out.2.2.2.2.2.2.2.2.1, HN4.out.2.2.2.2.2.2.2.2.2⟩
 clear K5 HN4
 go_wp2_with fail
 refine (gkept_any g3 cp3 ao cap t w5 HN5.out.1 (HA.out w5 HN5.out.2.2.2.1) HSZ.out.1).mono ?_
 rintro e w6 ⟨rfl, K6⟩
 have HN6 : Hid (VAt w6 B 24 LA ∧ w.grownBy w6 none ∧ w6.ownsRow 0 5 1 (.slice (some ⟨g4, 0, none⟩) (b.length + 3) cp4) (b.length + 3) ((b ++ [201, 201, 201]).map bv) ∧ w.heap.size ≤ g4 ∧ B ≠ g4) := ⟨HN5.out.2.2.1.grown K6 (fun e => HN5.out.2.2.2.2.2.2.2.1 (Option.some.inj e).symm), grown_trans_new HN5.out.2.2.2.1 K6 (fun z hz => by cases hz; exact HN5.out.2.1), own_kept HN5.out.2.2.2.2.1 K6 (fun e => HN5.out.2.2.2.2.2.2.1 (Option.some.inj e).symm), HN5.out.2.2.2.2.2.1, HN5.out.2.2.2.2.2.2.2.2⟩
 clear K6 HN5
 go_wp2_with fail
 refine (kept_any g4 cp4 a ca b w6 HN6.out.2.2.1 (HB.out w6 HN6.out.2.1) HSZ.out.2).mono ?_
 rintro e w7 ⟨rfl, K7⟩
 have HV7 : Hid (VAt w7 B 24 LA ∧ w.grownBy w7 none) := ⟨HN6.out.1.grown K7 (fun e => HN6.out.2.2.2.2 (Option.some.inj e).symm), grown_trans_new HN6.out.2.1 K7 (fun z hz => by cases hz; exact HN6.out.2.2.2.1)⟩
 clear K7 HN6
 go_wp2_with fail
 refine (awake14_any _).mono ?_
 rintro e ws ⟨rfl, Ks⟩
 have GE := grown_trans HV7.out.2 Ks
 clear Ks
 go_wp2
 go_ret
 exact ⟨rfl, GE⟩
set_option maxRecDepth 100000 in
theorem lifted (os : Os) (started : os.Started) (H : Type) (enc : TypeId × Value → H) :
  ReturnsInHanded {} Tryz.checked os 4 .any (Rows.meanValuesSpec.pre6 enc Tryz.prog Tryz.f4 Rows.meanValuesRow.domain false) (Rows.meanValuesSpec.post enc Tryz.prog Tryz.f4 false true false false) := by
 refine returnsInHanded_of_change_sized (C := Tryz.checked) own started (by kernel_rfl) Tryz.func4
  (ChangeSpec.witness6 (enc := enc) (C := Tryz.checked) false ⟨#[], #[.slice none 0 0, .agg #[.bool false, .bool false, .int .i64 0], .int .i64 0, .slice none 0 0], []⟩ 8 (by kernel_rfl) (by kernel_rfl) (by kernel_rfl) (by kernel_rfl)) ?_
 intro W base args ds gs before hval0 hW hcnd hsz0 _
 have hsz : (DataW.weightsEach Tryz.prog (Tryz.f4.params.toList ++ Rows.meanValuesSpec.plain.varTypes Tryz.prog) (ds ++ gs)).all (· ≤ reachBytes) = true := hsz0
 have hval : ∀ (j : Nat) t v, Tryz.f4.params[j]? = some t → args[j]? = some v → Value.okWide Tryz.prog W .any base t v := hval0
 have hW' := hW
 obtain ⟨p, q, hA0, hV, rfl, hfz, hnd⟩ := hW
 have hA : DataW.TrodAll enc Tryz.prog W 0 (fun _ => true) true Tryz.f4.params.toList args.toList ds p := hA0
 rw [Tryz.params4] at hA hval hsz
 obtain ⟨v0, vs0, d0, ds0, p0, q0, hargs, rfl, rfl, h0, r0⟩ := trodAll_cons hA
 obtain ⟨v1, vs1, d1, ds1, p1, q1, rfl, rfl, rfl, h1, r1⟩ := trodAll_cons r0
 obtain ⟨v2, vs2, d2, ds2, p2, q2, rfl, rfl, rfl, h2, r2⟩ := trodAll_cons r1
 obtain ⟨v3, vs3, d3, ds3, p3, q3, rfl, rfl, rfl, h3, r3⟩ := trodAll_cons r2
 obtain ⟨rfl, rfl, rfl⟩ := trodAll_nil r3
 obtain rfl : args = #[v0, v1, v2, v3] := by cases args; simp_all
 obtain ⟨rfl, rfl⟩ := trodVars_none hV
 obtain ⟨a0, len0, cap0, rfl⟩ := okWide_slice Tryz.underlying22 (hval 0 22 v0 rfl rfl)
 have k0 := h0
 have lt0 : ∀ x ∈ p0, x.block < W.heap.size := by obtain ⟨m, hm⟩ := k0; exact DataW.trod_lt m _ _ _ hm
 obtain ⟨xs0, rfl, hcells0, hnil0, hcp0, hok0, hdat0⟩ := open_nodes h0
 have k1 := h1
 have lt1 : ∀ x ∈ p1, x.block < W.heap.size := by obtain ⟨m, hm⟩ := k1; exact DataW.trod_lt m _ _ _ hm
 obtain ⟨x1, rfl⟩ := open_link h1
 obtain ⟨x2, rfl, rfl, rfl, w2⟩ := open_int Tryz.underlying3 (hval 2 3 v2 rfl rfl) h2
 obtain ⟨a3, len3, cap3, rfl⟩ := okWide_slice Tryz.underlying25 (hval 3 25 v3 rfl rfl)
 have k3 := h3
 have lt3 : ∀ x ∈ p3, x.block < W.heap.size := by obtain ⟨m, hm⟩ := k3; exact DataW.trod_lt m _ _ _ hm
 have hcp3 := open_cap Tryz.underlying25 Tryz.underlying5 (by kernel_rfl) h3
 obtain ⟨xs3, rfl, hcells3, hnil3, hdat3⟩ := open_bytes Tryz.underlying25 Tryz.underlying5 (by kernel_rfl) h3
 have hlen0 : xs0.length * 72 ≤ 140737488351232 := by
  rcases hdat0 with ⟨_, rfl⟩ | ⟨elems, spare, rfl, hle⟩
  ·simp
  ·have := sized_slice hsz (j := 0) (t := 22) (e := 52) rfl rfl Tryz.underlying22
   rw [bytes52] at this
   unfold reachBytes at this
   omega
 have hlen3 : xs3.length * 1 ≤ 140737488351232 := by
  rcases hdat3 with ⟨_, rfl⟩ | ⟨elems, spare, rfl, hle⟩
  ·simp
  ·have := sized_slice hsz (j := 3) (t := 25) (e := 5) rfl rfl Tryz.underlying25
   rw [bytes5] at this
   unfold reachBytes at this
   omega
 clear hA0 hval0
 refine (walk a0 cap0 xs0 x1 x2 a3 cap3 xs3 W hcells0 hnil0 hcp0.1 hcp0.2 (by omega) hok0 hcells3 hnil3 (by omega) hcp3).mono fun e W' ⟨he, hg⟩ => ?_
 subst he
 have bel : Below W.heap.size W W' := (Below.refl _ _).grown hg (Nat.le_refl _) (by simp)
 exact ⟨_, rfl, _, _, _, [], _, [], hW', trodAll_mk1 (shut_bool Tryz.underlying4 _), (trodAll_cons_mk (Below.trod laidOut (by kernel_rfl) (of_decide_eq_true (by kernel_rfl)) k0 bel lt0) (trodAll_cons_mk (Below.trod laidOut (by kernel_rfl) (of_decide_eq_true (by kernel_rfl)) k1 bel lt1) (trodAll_cons_mk (shut_int Tryz.underlying3 w2) (trodAll_cons_mk (Below.trod laidOut (by kernel_rfl) (of_decide_eq_true (by kernel_rfl)) k3 bel lt3) trodAll_mk0)))), rfl, bel.frame _, fun h => by cases h⟩
theorem over : Rows.MeanValuesSaid :=
 OpenClaim.holds_of_wide 4 Tryz.f4 rfl rfl rfl rfl rfl rfl rfl ⟨rfl, rfl, rfl, rfl, rfl⟩ rfl rfl rfl rfl rfl (by kernel_rfl) Tryz.func4 (by kernel_rfl)
  (of_decide_eq_true (by kernel_rfl)) (by unfold Func.isWrapper; first | (rw [if_pos (by decide +kernel)]; kernel_rfl) | (rw [if_neg (by decide +kernel)]; exact ⟨rfl, rfl⟩))
  (fun os started H enc _ => lifted os started H enc)

end meanValues
theorem meanValues_holds : Rows.MeanValuesSaid := meanValues.over
#print axioms meanValues_holds

end Go.Proofs.YtcodofamdhcfiaaGreat
