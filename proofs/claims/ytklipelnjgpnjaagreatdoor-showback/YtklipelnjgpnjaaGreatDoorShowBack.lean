/-
 For every list of nodes (of such size as the form itself says of it) riddlelaw13.ShowBack returns true and leaves what was there as it was: no condition of ours.
-/
import Derived.Test.YtklipelnjgpnjaaGreatDoorLotB37
import Derived.Test.YtklipelnjgpnjaaGreatDoorLotB49
import Derived.Test.YtklipelnjgpnjaaGreatDoorLotB12
import Derived.Deep.DeepCutAuto
namespace Go.Proofs.YtklipelnjgpnjaaGreatDoor
open Go.ChangeShapes Go.WideShapes Go.ChangeAt Go.RowKit
set_option maxRecDepth 100000
namespace showBack
theorem showR_cases (full : Bool) (T : Tr) : (200 < (T.txt full).2 ∧ a0k full T = .tuple #[.string ⟨#[]⟩, .int .i64 131]) ∨ ((T.txt full).2 ≤ 200 ∧ a0k full T = .tuple #[.string ⟨(T.txt full).1.toArray⟩, .int .i64 0]) := by
 unfold a0k
 split
 ·rename_i h; exact .inl ⟨h, rfl⟩
 ·exact .inr ⟨by omega, rfl⟩
/-- What Show and Full and Check answer, and parse of what they answer. -/
theorem both (t : List Ng) (w : World) (TB : a1d w) (hal : t.length * 72 ≤ 140737488351232) (hao : ∀ x ∈ t, x.ok) :
  ∃ (s1 s2 : ByteArray) (e1 e2 : Int) (p : Nat) (g : Int),
   (∀ (ao : Option Addr) (cap : Nat) W, w.grownBy W none → CV W ao (q9 t) → Calls Tryz.prog 11 #[.slice ao t.length cap] W fun e w' => e = .returned (.tuple #[.string s1, .int .i64 e1]) ∧ W.grownBy w' none) ∧
   (∀ (ao : Option Addr) (cap : Nat) W, w.grownBy W none → CV W ao (q9 t) → Calls Tryz.prog 13 #[.slice ao t.length cap] W fun e w' => e = .returned (.tuple #[.string s2, .int .i64 e2]) ∧ W.grownBy w' none) ∧
   (∀ (ao : Option Addr) (cap : Nat) W, CV W ao (q9 t) → Calls Tryz.prog 16 #[.slice ao t.length cap] W fun e w' => e = .returned (.tuple #[.int .i64 (p : Int), .int .i64 g]) ∧ W.grownBy w' none) ∧
   ((g ≠ 0 ∧ e1 = 130 ∧ e2 = 130 ∧ s1 = ⟨#[]⟩ ∧ s2 = ⟨#[]⟩) ∨
    (g = 0 ∧ (e2 = 0 → e1 = 0) ∧
     (e1 = 0 → ∀ W, w.grownBy W none → Calls Tryz.prog 17 #[.string s1] W fun e w' => ∃ ao cap vp, e = .returned (.tuple #[.slice ao t.length cap, vp, .int .i64 0, .int .i64 0]) ∧ CV w' ao (q9 t) ∧ (ao = none → cap = 0) ∧ W.grownBy w' none) ∧
     (e2 = 0 → ∀ W, w.grownBy W none → Calls Tryz.prog 17 #[.string s2] W fun e w' => ∃ ao cap vp, e = .returned (.tuple #[.slice ao t.length cap, vp, .int .i64 0, .int .i64 0]) ∧ CV w' ao (q9 t) ∧ (ao = none → cap = 0) ∧ W.grownBy w' none))) := by
 have hn : ∀ x ∈ t, x.n ≤ 4294967295 := fun x hx => (hao x hx).1
 have hmm : ∀ x ∈ t, x.m ≤ 4294967295 := fun x hx => (hao x hx).2.1
 have CK : ∀ (ao : Option Addr) (cap : Nat) W, CV W ao (q9 t) → Calls Tryz.prog 16 #[.slice ao t.length cap] W fun e w' => e = .returned (.tuple #[.int .i64 ((L8 t).1 : Int), .int .i64 (L8 t).2]) ∧ W.grownBy w' none := fun ao cap W C => a5Z ao cap t W C (by omega) hn
 by_cases hok : (L8 t).2 = 0
 ·obtain ⟨U, hU, hf⟩ := at0 hok
  have hm := a4E U
  have hl := (a8x hok hao hU hf).2.2.2
  have PT : ∀ full, (U.txt full).2 ≤ 200 → ∀ W, w.grownBy W none → Calls Tryz.prog 17 #[.string ⟨(U.txt full).1.toArray⟩] W fun e w' => ∃ ao cap vp, e = .returned (.tuple #[.slice ao t.length cap, vp, .int .i64 0, .int .i64 0]) ∧ CV w' ao (q9 t) ∧ (ao = none → cap = 0) ∧ W.grownBy w' none := fun full hd W G => by
   obtain ⟨ns, h1, h2⟩ := as9 hok hao hU hf hd
   exact aM6 h1 h2 (by have := hl full; omega) W (TB.grown G)
  have CS : ∀ (ao : Option Addr) (cap : Nat) W, w.grownBy W none → CV W ao (q9 t) → Calls Tryz.prog 11 #[.slice ao t.length cap] W fun e w' => e = .returned (a0k false U) ∧ W.grownBy w' none := fun ao cap W G C => ab7 ao cap t U hU hf hok hn hmm W (TB.2.grown G) C
  have CF : ∀ (ao : Option Addr) (cap : Nat) W, w.grownBy W none → CV W ao (q9 t) → Calls Tryz.prog 13 #[.slice ao t.length cap] W fun e w' => e = .returned (a0k true U) ∧ W.grownBy w' none := fun ao cap W G C => ab6 ao cap t U hU hf hok hn hmm W (TB.2.grown G) C
  rcases showR_cases false U with ⟨d1, r1⟩ | ⟨d1, r1⟩
  ·rcases showR_cases true U with ⟨d2, r2⟩ | ⟨d2, r2⟩
   ·rw [r1] at CS
    rw [r2] at CF
    exact ⟨_, _, 131, 131, _, _, CS, CF, CK, .inr ⟨hok, fun h => (by cases h), fun h => (by cases h), fun h => (by cases h)⟩⟩
   ·omega
  ·rcases showR_cases true U with ⟨d2, r2⟩ | ⟨d2, r2⟩
   ·rw [r1] at CS
    rw [r2] at CF
    exact ⟨_, _, 0, 131, _, _, CS, CF, CK, .inr ⟨hok, fun h => (by cases h), fun _ => PT false d1, fun h => (by cases h)⟩⟩
   ·rw [r1] at CS
    rw [r2] at CF
    exact ⟨_, _, 0, 0, _, _, CS, CF, CK, .inr ⟨hok, fun _ => rfl, fun _ => PT false d1, fun _ => PT true d2⟩⟩
 ·exact ⟨⟨#[]⟩, ⟨#[]⟩, 130, 130, _, _, fun ao cap W _ C => aV2 ao cap t hok (by omega) hn W C, fun ao cap W _ C => aV1 ao cap t hok (by omega) hn W C, CK, .inl ⟨hok, rfl, rfl, rfl, rfl⟩⟩
set_option maxRecDepth 100000 in
set_option maxHeartbeats 16000000 in
theorem walk (a : Option Addr) (ca : Nat) (t : List Ng) (w : World) (hA : CV w a (q9 t)) (ha0 : a = none → ca = 0) (_hac : t.length ≤ ca) (_hax : ca ≤ maxLen) (hal : t.length * 72 ≤ 140737488351232) (hao : ∀ x ∈ t, x.ok) (T : a1d w) :
  Calls Tryz.prog 4 #[.slice a t.length ca] w fun e w' => e = .returned (.bool true) ∧ w.grownBy w' none := by
 have HA : Hid (CV w a (q9 t)) := hA
 have HT : Hid (a1d w) := T
 have hlen9 : t.length ≤ 9223372036854775807 := by omega
 have HL9 : Hid (t.length ≤ 9223372036854775807) := hlen9
 have HCN : Hid (∀ W, w.grownBy W none → Calls Tryz.prog 15 #[.slice a t.length ca] W fun e w' => ∃ v, e = .returned v ∧ a4o w' W.heap.size v t ∧ W.grownBy w' none) := fun W K => av0 a ca t W (hA.keptNone K) ha0 (by omega)
 obtain ⟨s1, s2, e1, e2, p, g, b1, b2, b3, b4⟩ := both t w T hal hao
 have HB1 : Hid (∀ (ao : Option Addr) (cap : Nat) W, w.grownBy W none → CV W ao (q9 t) → Calls Tryz.prog 11 #[.slice ao t.length cap] W fun e w' => e = .returned (.tuple #[.string s1, .int .i64 e1]) ∧ W.grownBy w' none) := b1
 have HB2 : Hid (∀ (ao : Option Addr) (cap : Nat) W, w.grownBy W none → CV W ao (q9 t) → Calls Tryz.prog 13 #[.slice ao t.length cap] W fun e w' => e = .returned (.tuple #[.string s2, .int .i64 e2]) ∧ W.grownBy w' none) := b2
 have HB3 : Hid (∀ (ao : Option Addr) (cap : Nat) W, CV W ao (q9 t) → Calls Tryz.prog 16 #[.slice ao t.length cap] W fun e w' => e = .returned (.tuple #[.int .i64 (p : Int), .int .i64 g]) ∧ W.grownBy w' none) := b3
 have HB4 : Hid _ := b4
 clear hA ha0 hal hao T b1 b2 b3 b4 hlen9
 have G0 : Hid (w.grownBy w none) := World.grownBy.refl _ _
 go_enter Tryz.func4, Tryz.ntmps4
 go_wp2_with fail
 refine (HCN.out w G0.out).mono ?_
 rintro x1 w1 ⟨v1, rfl, O1, K1⟩
 obtain ⟨a1, c1, rfl, D1, -⟩ := T0 O1
 have HC : Hid (Calls _ _ _ _ _) := HB1.out a1 c1 w1 K1 D1
 have G1 : Hid (w.grownBy w1 none) := K1
 clear O1 D1 K1 G0 HB1
 go_wp2_with fail
 refine HC.out.mono ?_
 rintro x2 w2 ⟨rfl, K2⟩
 have G2 : Hid (w.grownBy w2 none) := d3 G1.out K2
 clear HC K2 G1
 go_wp2_with fail
 refine (HCN.out w2 G2.out).mono ?_
 rintro x3 w3 ⟨v3, rfl, O3, K3⟩
 obtain ⟨a3, c3, rfl, D3, -⟩ := T0 O3
 have G3 : Hid (w.grownBy w3 none) := d3 G2.out K3
 have HC : Hid (Calls _ _ _ _ _) := HB2.out a3 c3 w3 G3.out D3
 clear O3 D3 K3 G2 HB2
 go_wp2_with fail
 refine HC.out.mono ?_
 rintro x4 w4 ⟨rfl, K4⟩
 have G4 : Hid (w.grownBy w4 none) := d3 G3.out K4
 clear HC K4 G3
 go_wp2_with fail
 refine (HCN.out w4 G4.out).mono ?_
 rintro x5 w5 ⟨v5, rfl, O5, K5⟩
 obtain ⟨a5, c5, rfl, D5, -⟩ := T0 O5
 have G5 : Hid (w.grownBy w5 none) := d3 G4.out K5
 have HC : Hid (Calls _ _ _ _ _) := HB3.out a5 c5 w5 D5
 clear O5 D5 K5 G4 HB3 HCN
 go_wp2_with fail
 refine HC.out.mono ?_
 rintro x6 w6 ⟨rfl, K6⟩
 have HG6 : Hid (w.grownBy w6 none) := d3 G5.out K6
 clear HC K6 G5
 rcases HB4.out with ⟨hg, rfl, rfl, rfl, rfl⟩ | ⟨rfl, hee, hp1, hp2⟩
 ·have hgb : (g != 0) = true := by rw [bne_iff_ne]; exact hg
  clear HB4 hg
  go_wp2_with fail
  refine (a4z _ (HT.out.2.grown HG6.out)).mono ?_
  rintro x9 w9 ⟨rfl, K9⟩
  go_wp2
  go_ret
  exact ⟨rfl, d3 HG6.out K9⟩
 ·clear HB4
  by_cases h1 : e1 = 0
  ·subst h1
   have HP1 : Hid (∀ W, w.grownBy W none → Calls Tryz.prog 17 #[.string s1] W fun e w' => ∃ ao cap vp, e = .returned (.tuple #[.slice ao t.length cap, vp, .int .i64 0, .int .i64 0]) ∧ CV w' ao (q9 t) ∧ (ao = none → cap = 0) ∧ W.grownBy w' none) := hp1 rfl
   have HP2 : Hid (e2 = 0 → ∀ W, w.grownBy W none → Calls Tryz.prog 17 #[.string s2] W fun e w' => ∃ ao cap vp, e = .returned (.tuple #[.slice ao t.length cap, vp, .int .i64 0, .int .i64 0]) ∧ CV w' ao (q9 t) ∧ (ao = none → cap = 0) ∧ W.grownBy w' none) := hp2
   clear hp1 hp2 hee
   go_wp2_with fail
   refine (HP1.out w6 HG6.out).mono ?_
   rintro x7 w7 ⟨a7, c7, vp7, rfl, C7, -, K7⟩
   have HG7 : Hid (w.grownBy w7 none) := d3 HG6.out K7
   have HS7 : Hid (Calls _ _ _ _ _) := a8T a7 a c7 ca t w7 C7 (HA.out.keptNone HG7.out) HL9.out
   clear C7 K7 HG6 HP1
   go_wp2_with fail
   refine HS7.out.mono ?_
   rintro x8 w8 ⟨rfl, n8, rfl⟩
   have HG8 : Hid (w.grownBy (w7.drewN n8) none) := d3 HG7.out (f9 _ _ none)
   generalize w7.drewN n8 = w8 at *
   clear HS7 HG7
   by_cases h2 : e2 = 0
   ·subst h2
    have HP : Hid (Calls _ _ _ _ _) := HP2.out rfl w8 HG8.out
    clear HP2
    go_wp2_with fail
    refine HP.out.mono ?_
    rintro x9 w9 ⟨a9, c9, vp9, rfl, C9, -, K9⟩
    have HG9 : Hid (w.grownBy w9 none) := d3 HG8.out K9
    have HS9 : Hid (Calls _ _ _ _ _) := a8T a9 a c9 ca t w9 C9 (HA.out.keptNone HG9.out) HL9.out
    clear C9 K9 HG8 HP
    go_wp2_with fail
    refine HS9.out.mono ?_
    rintro x10 w10 ⟨rfl, n10, rfl⟩
    have HG10 : Hid (w.grownBy (w9.drewN n10) none) := d3 HG9.out (f9 _ _ none)
    generalize w9.drewN n10 = w10 at *
    clear HS9 HG9
    go_wp2_with fail
    refine (a4z _ (HT.out.2.grown HG10.out)).mono ?_
    rintro x11 w11 ⟨rfl, K11⟩
    go_wp2
    go_ret
    exact ⟨rfl, d3 HG10.out K11⟩
   ·have hb2 : (e2 == 0) = false := by rw [beq_eq_false_iff_ne]; exact h2
    clear h2 HP2
    go_wp2_with fail
    refine (a4z _ (HT.out.2.grown HG8.out)).mono ?_
    rintro x11 w11 ⟨rfl, K11⟩
    go_wp2
    go_ret
    exact ⟨rfl, d3 HG8.out K11⟩
  ·have hb1 : (e1 == 0) = false := by rw [beq_eq_false_iff_ne]; exact h1
   have hb2 : (e2 == 0) = false := by rw [beq_eq_false_iff_ne]; exact fun h => h1 (hee h)
   clear h1 hee hp1 hp2
   go_wp2_with fail
   refine (a4z _ (HT.out.2.grown HG6.out)).mono ?_
   rintro x11 w11 ⟨rfl, K11⟩
   go_wp2
   go_ret
   exact ⟨rfl, d3 HG6.out K11⟩
set_option maxRecDepth 100000 in
theorem lifted (os : Os) (started : os.Started) (H : Type) (enc : TypeId × Value → H) (F : Stop.Interp) :
  ReturnsInHanded {} Tryz.checked os 4 .any ((OpenSpec.ofChange Rows.showBackSpec).preRow enc Tryz.prog Tryz.f4 Rows.showBackRow.domain false Rows.showBackRow.laid) (((OpenSpec.ofChange Rows.showBackSpec).at F).post enc Tryz.prog Tryz.f4 false true false false) := by
 have hx : DataW.whole enc Tryz.prog ((a6x os).forCall (fun _ _ => 0) ⟨#[], #[.slice none 0 0], []⟩).memory Tryz.f4.params.toList Rows.showBackSpec.vars false (#[.slice none 0 0] : Array Value).toList 8 = some ([.nil], [], []) := by kernel_rfl
 refine returnsInHanded_of_row (C := Tryz.checked) (s := (OpenSpec.ofChange Rows.showBackSpec)) own started (by kernel_rfl) Tryz.func4
  (witness_row_atRef (enc := enc) (C := Tryz.checked) false (a6x os) #[.slice none 0 0] (World.laidAll_os _ _ _) (by kernel_rfl) (by kernel_rfl) (by kernel_rfl)
   (OpenSpec.preRow_of_cond 8 hx (by kernel_rfl) (fun k hk => by cases hk) (by kernel_rfl) (aA5 os _))) ?_
 intro W base args ds gs before hval0 hW hcnd hcond hsz0 hL hsh _
 have hsz : (DataW.weightsEach Tryz.prog (Tryz.f4.params.toList ++ Rows.showBackSpec.plain.varTypes Tryz.prog) (ds ++ gs)).all (· ≤ reachBytes) = true := hsz0
 have T : a1d W := aA8 hL hsh
 have hval : ∀ (j : Nat) t v, Tryz.f4.params[j]? = some t → args[j]? = some v → Value.okWide Tryz.prog W .any base t v := hval0
 have hW' := hW
 obtain ⟨p, q, hA0, hV, rfl, hfz, hnd⟩ := hW
 have hA : DataW.TrodAll enc Tryz.prog W 0 (fun _ => true) true Tryz.f4.params.toList args.toList ds p := hA0
 rw [Tryz.params4] at hA hval hsz
 obtain ⟨v0, vs0, d0, ds0, p0, q0, hargs, rfl, rfl, h0, r0⟩ := trodAll_cons hA
 obtain ⟨rfl, rfl, rfl⟩ := trodAll_nil r0
 obtain rfl : args = #[v0] := by cases args; simp_all
 obtain ⟨rfl, rfl⟩ := trodVars_none hV
 obtain ⟨a0, len0, cap0, rfl⟩ := okWide_slice Tryz.underlying22 (hval 0 22 v0 rfl rfl)
 have k0 := h0
 have lt0 : ∀ x ∈ p0, x.block < W.heap.size := by obtain ⟨m, hm⟩ := k0; exact DataW.trod_lt m _ _ _ hm
 obtain ⟨xs0, rfl, hcells0, hnil0, hcp0, hok0, hdat0⟩ := aK5 h0
 have hlen0 : xs0.length * 72 ≤ 140737488351232 := by
  rcases hdat0 with ⟨_, rfl⟩ | ⟨elems, spare, rfl, hle⟩
  ·simp
  ·have := sized_slice hsz (j := 0) (t := 22) (e := 43) rfl rfl Tryz.underlying22
   rw [ao0] at this
   unfold reachBytes at this
   omega
 clear hA0 hval0
 refine (walk a0 cap0 xs0 W hcells0 hnil0 hcp0.1 hcp0.2 (by omega) hok0 T).mono fun e W' ⟨he, hg⟩ => ?_
 subst he
 have bel : Below W.heap.size W W' := (Below.refl _ _).grown hg (Nat.le_refl _) (by simp)
 exact ⟨_, rfl, _, _, _, [], _, [], hW', trodAll_mk1 (shut_bool Tryz.underlying4 _), (trodAll_cons_mk (Below.trod aA4 (by kernel_rfl) (of_decide_eq_true (by kernel_rfl)) k0 bel lt0) trodAll_mk0), rfl, bel.frame _, fun h => by cases h⟩
theorem over : Rows.ShowBackSaid :=
 OpenClaim.holds_of_cond 4 Tryz.f4 rfl rfl rfl rfl rfl rfl rfl ⟨rfl, rfl, rfl, rfl, rfl⟩ rfl rfl rfl rfl rfl (by kernel_rfl) Tryz.func4 (by kernel_rfl)
  (of_decide_eq_true (by kernel_rfl)) (by unfold Func.isWrapper; first | (rw [if_pos (by decide +kernel)]; kernel_rfl) | (rw [if_neg (by decide +kernel)]; exact ⟨rfl, rfl⟩))
  (fun os started H enc _ F => by rw [OpenClaim.pre_eq_preRow]; exact lifted os started H enc F)
theorem plain (f : FuncId) (fn : Func) (hf : Tryz.pinned.checked.prog.funcNamed "riddle/riddlelaw13.ShowBack" = some f) (hfn : Tryz.pinned.checked.prog.funcs[f]? = some fn) :
  true = Tryz.pinned.checked.prog.looks [] ∧ ∀ (j : Nat) t, fn.params[j]? = some t → Tryz.pinned.checked.prog.wantsStandIn t = false := by
 obtain rfl : f = 4 := Option.some.inj ((show Tryz.prog.funcNamed "riddle/riddlelaw13.ShowBack" = some 4 by kernel_rfl).symm.trans hf) |>.symm
 obtain rfl : fn = Tryz.f4 := (Option.some.inj (Tryz.func4.symm.trans hfn)).symm
 refine ⟨by kernel_rfl, fun j t ht => ?_⟩
 rw [Tryz.params4] at ht
 have ht2 := Array.mem_of_getElem? ht
 simp only [List.mem_toArray, List.mem_cons, List.not_mem_nil, or_false] at ht2
 rcases ht2 with rfl
 ·exact (show Tryz.prog.wantsStandIn 22 = false by kernel_rfl)
theorem card : Rows.ShowBackCardSaid :=
 Claim7.holds_tied_plain_at .later [] _ _ _ _ over (fun _ h => by cases h) (by kernel_rfl) (fun _ h => by cases h) showBack_row_tie rfl ⟨rfl, rfl⟩ (by kernel_rfl) rfl plain (by kernel_rfl)

end showBack
theorem showBack_holds : Rows.ShowBackCardSaid := showBack.card
#print axioms showBack_holds

end Go.Proofs.YtklipelnjgpnjaaGreatDoor
