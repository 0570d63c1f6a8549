/-
 For any two lists of nodes (of such size as the form itself says of them) riddlelaw13.ShowApart returns true and leaves what was there as it was: no condition of ours.
-/
import Derived.Test.YtklipelnjgpnjaaGreatDoorLotA45
import Derived.Test.YtklipelnjgpnjaaGreatDoorLotA46
import Derived.Test.YtklipelnjgpnjaaGreatDoorLotA47
import Derived.Deep.DeepCutAuto
namespace Go.Proofs.YtklipelnjgpnjaaGreatDoor
open Go.ChangeShapes Go.WideShapes Go.ChangeAt Go.RowKit
set_option maxRecDepth 100000
namespace showApart
theorem showR_cases (full : Bool) (T : Tr) : (∃ s : ByteArray, showR full T = .tuple #[.string s, .int .i64 131]) ∨ ((T.txt full).2 ≤ 200 ∧ showR full T = .tuple #[.string ⟨(T.txt full).1.toArray⟩, .int .i64 0]) := by
 unfold showR
 split
 ·exact .inl ⟨_, rfl⟩
 ·exact .inr ⟨by omega, rfl⟩
/-- What Show and Full answer: an error, or the text of a tree. -/
theorem said (t : List Ng) (w : World) (TA : TabA w) (hal : t.length * 72 ≤ 140737488351232) (hao : ∀ x ∈ t, x.ok) :
  ∃ (s1 s2 : ByteArray) (e1 e2 : Int),
   (∀ (ao : Option Addr) (cap : Nat) W, w.grownBy W none → CV W ao (flatG t) → Calls Tryz.prog 11 #[.slice ao t.length cap] W fun e w' => e = .returned (.tuple #[.string s1, .int .i64 e1]) ∧ W.grownBy w' none) ∧
   (∀ (ao : Option Addr) (cap : Nat) W, w.grownBy W none → CV W ao (flatG t) → Calls Tryz.prog 13 #[.slice ao t.length cap] W fun e w' => e = .returned (.tuple #[.string s2, .int .i64 e2]) ∧ W.grownBy w' none) ∧
   (e1 = 0 → e2 = 0 → ∃ T : Tr, T.Wf ∧ T.flat = t ∧ (checkG t).2 = 0 ∧ (T.txt false).2 ≤ 200 ∧ (T.txt true).2 ≤ 200 ∧ s1 = ⟨(T.txt false).1.toArray⟩ ∧ s2 = ⟨(T.txt true).1.toArray⟩) := by
 have hn : ∀ x ∈ t, x.n ≤ 4294967295 := fun x hx => (hao x hx).1
 have hmm : ∀ x ∈ t, x.m ≤ 4294967295 := fun x hx => (hao x hx).2.1
 by_cases hok : (checkG t).2 = 0
 ·obtain ⟨U, hU, hf⟩ := filt_tree hok
  have CS : ∀ (ao : Option Addr) (cap : Nat) W, w.grownBy W none → CV W ao (flatG t) → Calls Tryz.prog 11 #[.slice ao t.length cap] W fun e w' => e = .returned (showR false U) ∧ W.grownBy w' none := fun ao cap W G C => show_ok_S ao cap t U hU hf hok hn hmm W (TA.grown G) C
  have CF : ∀ (ao : Option Addr) (cap : Nat) W, w.grownBy W none → CV W ao (flatG t) → Calls Tryz.prog 13 #[.slice ao t.length cap] W fun e w' => e = .returned (showR true U) ∧ W.grownBy w' none := fun ao cap W G C => show_ok_F ao cap t U hU hf hok hn hmm W (TA.grown G) C
  rcases showR_cases false U with ⟨x1, r1⟩ | ⟨d1, r1⟩
  ·rcases showR_cases true U with ⟨x2, r2⟩ | ⟨d2, r2⟩
   ·rw [r1] at CS
    rw [r2] at CF
    exact ⟨_, _, 131, 131, CS, CF, fun h => (by cases h)⟩
   ·rw [r1] at CS
    rw [r2] at CF
    exact ⟨_, _, 131, 0, CS, CF, fun h => (by cases h)⟩
  ·rcases showR_cases true U with ⟨x2, r2⟩ | ⟨d2, r2⟩
   ·rw [r1] at CS
    rw [r2] at CF
    exact ⟨_, _, 0, 131, CS, CF, fun _ h => (by cases h)⟩
   ·rw [r1] at CS
    rw [r2] at CF
    exact ⟨_, _, 0, 0, CS, CF, fun _ _ => ⟨U, hU, hf, hok, d1, d2, rfl, rfl⟩⟩
 ·exact ⟨⟨#[]⟩, ⟨#[]⟩, 130, 130, fun ao cap W _ C => show_no_S ao cap t hok (by omega) hn W C, fun ao cap W _ C => show_no_F ao cap t hok (by omega) hn W C, fun h => (by cases h)⟩
theorem ba_inj {x y : List UInt8} : (⟨x.toArray⟩ : ByteArray) = ⟨y.toArray⟩ ↔ x = y := by
 constructor
 ·intro h
  have := congrArg (fun b : ByteArray => b.data.toList) h
  simpa using this
 ·rintro rfl; rfl
set_option maxRecDepth 100000 in
set_option maxHeartbeats 16000000 in
theorem walk (a : Option Addr) (ca : Nat) (t : List Ng) (b : Option Addr) (cb : Nat) (u : List Ng) (w : World) (hA : CV w a (flatG t)) (ha0 : a = none → ca = 0) (_hac : t.length ≤ ca) (_hax : ca ≤ maxLen) (hal : t.length * 72 ≤ 140737488351232) (hao : ∀ x ∈ t, x.ok) (hB : CV w b (flatG u)) (hb0 : b = none → cb = 0) (_hbc : u.length ≤ cb) (_hbx : cb ≤ maxLen) (hbl : u.length * 72 ≤ 140737488351232) (hbo : ∀ x ∈ u, x.ok) (T : TabA w) :
  Calls Tryz.prog 6 #[.slice a t.length ca, .slice b u.length cb] w fun e w' => e = .returned (.bool true) ∧ w.grownBy w' none := by
 have HA : Hid (CV w a (flatG t)) := hA
 have HB : Hid (CV w b (flatG u)) := hB
 have HT : Hid (TabA w) := T
 have HL9 : Hid (t.length ≤ 9223372036854775807) := by show _ ≤ _; omega
 have HCA : Hid (∀ W, w.grownBy W none → Calls Tryz.prog 15 #[.slice a t.length ca] W fun e w' => ∃ v, e = .returned v ∧ NgOwns w' W.heap.size v t ∧ W.grownBy w' none) := fun W K => gcopy_any a ca t W (hA.keptNone K) ha0 (by omega)
 have HCB : Hid (∀ W, w.grownBy W none → Calls Tryz.prog 15 #[.slice b u.length cb] W fun e w' => ∃ v, e = .returned v ∧ NgOwns w' W.heap.size v u ∧ W.grownBy w' none) := fun W K => gcopy_any b cb u W (hB.keptNone K) hb0 (by omega)
 obtain ⟨s1, s2, e1, e2, p1, p2, p3⟩ := said t w T hal hao
 obtain ⟨z1, z2, f1, f2, q1, q2, q3⟩ := said u w T hbl hbo
 have HS1 : Hid (∀ (ao : Option Addr) (cap : Nat) W, w.grownBy W none → CV W ao (flatG t) → Calls Tryz.prog 11 #[.slice ao t.length cap] W fun e w' => e = .returned (.tuple #[.string s1, .int .i64 e1]) ∧ W.grownBy w' none) := p1
 have HS2 : Hid (∀ (ao : Option Addr) (cap : Nat) W, w.grownBy W none → CV W ao (flatG t) → Calls Tryz.prog 13 #[.slice ao t.length cap] W fun e w' => e = .returned (.tuple #[.string s2, .int .i64 e2]) ∧ W.grownBy w' none) := p2
 have HZ1 : Hid (∀ (ao : Option Addr) (cap : Nat) W, w.grownBy W none → CV W ao (flatG u) → Calls Tryz.prog 11 #[.slice ao u.length cap] W fun e w' => e = .returned (.tuple #[.string z1, .int .i64 f1]) ∧ W.grownBy w' none) := q1
 have HZ2 : Hid (∀ (ao : Option Addr) (cap : Nat) W, w.grownBy W none → CV W ao (flatG u) → Calls Tryz.prog 13 #[.slice ao u.length cap] W fun e w' => e = .returned (.tuple #[.string z2, .int .i64 f2]) ∧ W.grownBy w' none) := q2
 have HEQ : Hid (e1 = 0 → e2 = 0 → f1 = 0 → f2 = 0 → (s1 = z1 ↔ SameL t u) ∧ (s2 = z2 ↔ SameL t u)) := fun h1 h2 h3 h4 => by
  obtain ⟨A, a1, a2, a3, a4, a5, rfl, rfl⟩ := p3 h1 h2
  obtain ⟨B, b1, b2, b3, b4, b5, rfl, rfl⟩ := q3 h3 h4
  have hs : SameL t u ↔ t = u := sameL_eq (fun x hx => (hao x hx).2.2) (fun x hx => (hbo x hx).2.2)
  have hAB : t = u → A = B := fun h => by
   exact flat_inj A B a1 b1 (by rw [a2, b2, h])
  rw [hs, ba_inj, ba_inj]
  exact ⟨⟨fun h => text_one a3 hao a1 a2 b3 hbo b1 b2 a4 b4 h, fun h => by rw [hAB h]⟩, ⟨fun h => text_one a3 hao a1 a2 b3 hbo b1 b2 a5 b5 h, fun h => by rw [hAB h]⟩⟩
 clear hA hB ha0 hb0 hal hbl hao hbo T p1 p2 p3 q1 q2 q3
 have G0 : Hid (w.grownBy w none) := World.grownBy.refl _ _
 go_enter Tryz.func6, Tryz.ntmps6
 go_wp2_with fail
 refine (HCA.out w G0.out).mono ?_
 rintro x1 w1 ⟨v1, rfl, O1, K1⟩
 obtain ⟨a1, c1, rfl, D1, -⟩ := cv_of_row O1
 have HC : Hid (Calls _ _ _ _ _) := HS1.out a1 c1 w1 K1 D1
 have G1 : Hid (w.grownBy w1 none) := K1
 clear O1 D1 K1 G0 HS1
 go_wp2_with fail
 refine HC.out.mono ?_
 rintro x2 w2 ⟨rfl, K2⟩
 have G2 : Hid (w.grownBy w2 none) := grown_trans G1.out K2
 clear HC K2 G1
 go_wp2_with fail
 refine (HCB.out w2 G2.out).mono ?_
 rintro x3 w3 ⟨v3, rfl, O3, K3⟩
 obtain ⟨a3, c3, rfl, D3, -⟩ := cv_of_row O3
 have G3 : Hid (w.grownBy w3 none) := grown_trans G2.out K3
 have HC : Hid (Calls _ _ _ _ _) := HZ1.out a3 c3 w3 G3.out D3
 clear O3 D3 K3 G2 HZ1
 go_wp2_with fail
 refine HC.out.mono ?_
 rintro x4 w4 ⟨rfl, K4⟩
 have G4 : Hid (w.grownBy w4 none) := grown_trans G3.out K4
 clear HC K4 G3
 go_wp2_with fail
 refine (HCA.out w4 G4.out).mono ?_
 rintro x5 w5 ⟨v5, rfl, O5, K5⟩
 obtain ⟨a5, c5, rfl, D5, -⟩ := cv_of_row O5
 have G5 : Hid (w.grownBy w5 none) := grown_trans G4.out K5
 have HC : Hid (Calls _ _ _ _ _) := HS2.out a5 c5 w5 G5.out D5
 clear O5 D5 K5 G4 HS2 HCA
 go_wp2_with fail
 refine HC.out.mono ?_
 rintro x6 w6 ⟨rfl, K6⟩
 have G6 : Hid (w.grownBy w6 none) := grown_trans G5.out K6
 clear HC K6 G5
 go_wp2_with fail
 refine (HCB.out w6 G6.out).mono ?_
 rintro x7 w7 ⟨v7, rfl, O7, K7⟩
 obtain ⟨a7, c7, rfl, D7, -⟩ := cv_of_row O7
 have G7 : Hid (w.grownBy w7 none) := grown_trans G6.out K7
 have HC : Hid (Calls _ _ _ _ _) := HZ2.out a7 c7 w7 G7.out D7
 clear O7 D7 K7 G6 HZ2 HCB
 go_wp2_with fail
 refine HC.out.mono ?_
 rintro x8 w8 ⟨rfl, K8⟩
 have HG8 : Hid (w.grownBy w8 none) := grown_trans G7.out K8
 clear HC K8 G7
 have HAW : Hid (∀ W, w.grownBy W none → Calls Tryz.prog 14 #[] W fun e w' => e = .returned (.bool true) ∧ W.grownBy w' none) := fun W K => awake13_any W (HT.out.grown K)
 by_cases h1 : e1 = 0
 ·by_cases h2 : f1 = 0
  ·by_cases h3 : e2 = 0
   ·by_cases h4 : f2 = 0
    ·obtain ⟨hq1, hq2⟩ := HEQ.out h1 h3 h2 h4
     subst h1 h2 h3 h4
     have HS : Hid (Calls _ _ _ _ _) := gsameL_any a b ca cb t u w8 (HA.out.keptNone HG8.out) (HB.out.keptNone HG8.out) HL9.out
     have HQ : Hid ((s1 = z1 ↔ SameL t u) ∧ (s2 = z2 ↔ SameL t u)) := ⟨hq1, hq2⟩
     clear HEQ hq1 hq2
     go_wp2_with fail
     refine HS.out.mono ?_
     rintro x9 w9 ⟨r, hr, rfl, n9, rfl⟩
     have HG9 : Hid (w.grownBy (w8.drewN n9) none) := grown_trans HG8.out (grown_drewN _ _ none)
     generalize w8.drewN n9 = w9 at *
     have HAW9 : Hid (Calls _ _ _ _ _) := HAW.out w9 HG9.out
     clear HS HG8 HAW
     cases r with
     | true =>
      have hs := hr.1 rfl
      obtain rfl : s1 = z1 := HQ.out.1.2 hs
      obtain rfl : s2 = z2 := HQ.out.2.2 hs
      clear HQ hr hs
      go_wp2_with fail
      refine HAW9.out.mono ?_
      rintro x10 w10 ⟨rfl, K10⟩
      go_wp2
      go_ret
      exact ⟨rfl, grown_trans HG9.out K10⟩
     | false =>
      have hs : ¬ SameL t u := fun h => (by have := hr.2 h; cases this)
      have tl : ∀ x y : ByteArray, x.toList = y.toList → x = y := fun x y h => by
       rw [ByteArray.toList_eq, ByteArray.toList_eq] at h
       exact bytes_inj h
      have m1 : ¬ s1.toList = z1.toList := fun h => hs (HQ.out.1.1 (tl _ _ h))
      have m2 : ¬ s2.toList = z2.toList := fun h => hs (HQ.out.2.1 (tl _ _ h))
      have b1 : (s1.toList == z1.toList) = false := by rw [beq_eq_false_iff_ne]; exact m1
      have b2 : (s2.toList == z2.toList) = false := by rw [beq_eq_false_iff_ne]; exact m2
      clear tl m1 m2
      clear HQ hr hs
      go_wp2_with fail
      refine HAW9.out.mono ?_
      rintro x10 w10 ⟨rfl, K10⟩
      go_wp2
      go_ret
      exact ⟨rfl, grown_trans HG9.out K10⟩
    ·have hb : (f2 != 0) = true := by rw [bne_iff_ne]; exact h4
     subst h1 h2 h3
     clear h4 HEQ
     go_wp2_with fail
     refine (HAW.out w8 HG8.out).mono ?_
     rintro x10 w10 ⟨rfl, K10⟩
     go_wp2
     go_ret
     exact ⟨rfl, grown_trans HG8.out K10⟩
   ·have hb : (e2 != 0) = true := by rw [bne_iff_ne]; exact h3
    subst h1 h2
    clear h3 HEQ
    go_wp2_with fail
    refine (HAW.out w8 HG8.out).mono ?_
    rintro x10 w10 ⟨rfl, K10⟩
    go_wp2
    go_ret
    exact ⟨rfl, grown_trans HG8.out K10⟩
  ·have hb : (f1 != 0) = true := by rw [bne_iff_ne]; exact h2
   subst h1
   clear h2 HEQ
   go_wp2_with fail
   refine (HAW.out w8 HG8.out).mono ?_
   rintro x10 w10 ⟨rfl, K10⟩
   go_wp2
   go_ret
   exact ⟨rfl, grown_trans HG8.out K10⟩
 ·have hb : (e1 != 0) = true := by rw [bne_iff_ne]; exact h1
  clear h1 HEQ
  go_wp2_with fail
  refine (HAW.out w8 HG8.out).mono ?_
  rintro x10 w10 ⟨rfl, K10⟩
  go_wp2
  go_ret
  exact ⟨rfl, grown_trans HG8.out K10⟩
set_option maxRecDepth 100000 in
theorem lifted (os : Os) (started : os.Started) (H : Type) (enc : TypeId × Value → H) (F : Stop.Interp) :
  ReturnsInHanded {} Tryz.checked os 6 .any ((OpenSpec.ofChange Rows.showApartSpec).preRow enc Tryz.prog Tryz.f6 Rows.showApartRow.domain false Rows.showApartRow.laid) (((OpenSpec.ofChange Rows.showApartSpec).at F).post enc Tryz.prog Tryz.f6 false true false false) := by
 have hx : DataW.whole enc Tryz.prog ((laidWorld os).forCall (fun _ _ => 0) ⟨#[], #[.slice none 0 0, .slice none 0 0], []⟩).memory Tryz.f6.params.toList Rows.showApartSpec.vars false (#[.slice none 0 0, .slice none 0 0] : Array Value).toList 8 = some ([.nil, .nil], [], []) := by kernel_rfl
 refine returnsInHanded_of_row (C := Tryz.checked) (s := (OpenSpec.ofChange Rows.showApartSpec)) own started (by kernel_rfl) Tryz.func6
  (witness_row_atRef (enc := enc) (C := Tryz.checked) false (laidWorld os) #[.slice none 0 0, .slice none 0 0] (World.laidAll_os _ _ _) (by kernel_rfl) (by kernel_rfl) (by kernel_rfl)
   (OpenSpec.preRow_of_cond 8 hx (by kernel_rfl) (fun k hk => by cases hk) (by kernel_rfl) (laid_met os _))) ?_
 intro W base args ds gs before hval0 hW hcnd hcond hsz0 hL hsh _
 have hsz : (DataW.weightsEach Tryz.prog (Tryz.f6.params.toList ++ Rows.showApartSpec.plain.varTypes Tryz.prog) (ds ++ gs)).all (· ≤ reachBytes) = true := hsz0
 have T : TabB W := laid_tabB hL hsh
 have hval : ∀ (j : Nat) t v, Tryz.f6.params[j]? = some t → args[j]? = some v → Value.okWide Tryz.prog W .any base t v := hval0
 have hW' := hW
 obtain ⟨p, q, hA0, hV, rfl, hfz, hnd⟩ := hW
 have hA : DataW.TrodAll enc Tryz.prog W 0 (fun _ => true) true Tryz.f6.params.toList args.toList ds p := hA0
 rw [Tryz.params6] at hA hval hsz
 obtain ⟨v0, vs0, d0, ds0, p0, q0, hargs, rfl, rfl, h0, r0⟩ := trodAll_cons hA
 obtain ⟨v1, vs1, d1, ds1, p1, q1, rfl, rfl, rfl, h1, r1⟩ := trodAll_cons r0
 obtain ⟨rfl, rfl, rfl⟩ := trodAll_nil r1
 obtain rfl : args = #[v0, v1] := by cases args; simp_all
 obtain ⟨rfl, rfl⟩ := trodVars_none hV
 obtain ⟨a0, len0, cap0, rfl⟩ := okWide_slice Tryz.underlying22 (hval 0 22 v0 rfl rfl)
 have k0 := h0
 have lt0 : ∀ x ∈ p0, x.block < W.heap.size := by obtain ⟨m, hm⟩ := k0; exact DataW.trod_lt m _ _ _ hm
 obtain ⟨xs0, rfl, hcells0, hnil0, hcp0, hok0, hdat0⟩ := open_nodes h0
 obtain ⟨a1, len1, cap1, rfl⟩ := okWide_slice Tryz.underlying22 (hval 1 22 v1 rfl rfl)
 have k1 := h1
 have lt1 : ∀ x ∈ p1, x.block < W.heap.size := by obtain ⟨m, hm⟩ := k1; exact DataW.trod_lt m _ _ _ hm
 obtain ⟨xs1, rfl, hcells1, hnil1, hcp1, hok1, hdat1⟩ := open_nodes h1
 have hlen0 : xs0.length * 72 ≤ 140737488351232 := by
  rcases hdat0 with ⟨_, rfl⟩ | ⟨elems, spare, rfl, hle⟩
  ·simp
  ·have := sized_slice hsz (j := 0) (t := 22) (e := 43) rfl rfl Tryz.underlying22
   rw [bytes43] at this
   unfold reachBytes at this
   omega
 have hlen1 : xs1.length * 72 ≤ 140737488351232 := by
  rcases hdat1 with ⟨_, rfl⟩ | ⟨elems, spare, rfl, hle⟩
  ·simp
  ·have := sized_slice hsz (j := 1) (t := 22) (e := 43) rfl rfl Tryz.underlying22
   rw [bytes43] at this
   unfold reachBytes at this
   omega
 clear hA0 hval0
 refine (walk a0 cap0 xs0 a1 cap1 xs1 W hcells0 hnil0 hcp0.1 hcp0.2 (by omega) hok0 hcells1 hnil1 hcp1.1 hcp1.2 (by omega) hok1 T).mono fun e W' ⟨he, hg⟩ => ?_
 subst he
 have bel : Below W.heap.size W W' := (Below.refl _ _).grown hg (Nat.le_refl _) (by simp)
 exact ⟨_, rfl, _, _, _, [], _, [], hW', trodAll_mk1 (shut_bool Tryz.underlying4 _), (trodAll_cons_mk (Below.trod laidOut (by kernel_rfl) (of_decide_eq_true (by kernel_rfl)) k0 bel lt0) (trodAll_cons_mk (Below.trod laidOut (by kernel_rfl) (of_decide_eq_true (by kernel_rfl)) k1 bel lt1) trodAll_mk0)), rfl, bel.frame _, fun h => by cases h⟩
theorem over : Rows.ShowApartSaid :=
 OpenClaim.holds_of_cond 6 Tryz.f6 rfl rfl rfl rfl rfl rfl rfl ⟨rfl, rfl, rfl, rfl, rfl⟩ rfl rfl rfl rfl rfl (by kernel_rfl) Tryz.func6 (by kernel_rfl)
  (of_decide_eq_true (by kernel_rfl)) (by unfold Func.isWrapper; first | (rw [if_pos (by decide +kernel)]; kernel_rfl) | (rw [if_neg (by decide +kernel)]; exact ⟨rfl, rfl⟩))
  (fun os started H enc _ F => by rw [OpenClaim.pre_eq_preRow]; exact lifted os started H enc F)
theorem plain (f : FuncId) (fn : Func) (hf : Tryz.pinned.checked.prog.funcNamed "riddle/riddlelaw13.ShowApart" = some f) (hfn : Tryz.pinned.checked.prog.funcs[f]? = some fn) :
  true = Tryz.pinned.checked.prog.looks [] ∧ ∀ (j : Nat) t, fn.params[j]? = some t → Tryz.pinned.checked.prog.wantsStandIn t = false := by
 obtain rfl : f = 6 := Option.some.inj ((show Tryz.prog.funcNamed "riddle/riddlelaw13.ShowApart" = some 6 by kernel_rfl).symm.trans hf) |>.symm
 obtain rfl : fn = Tryz.f6 := (Option.some.inj (Tryz.func6.symm.trans hfn)).symm
 refine ⟨by kernel_rfl, fun j t ht => ?_⟩
 rw [Tryz.params6] at ht
 have ht2 := Array.mem_of_getElem? ht
 simp only [List.mem_toArray, List.mem_cons, List.not_mem_nil, or_false] at ht2
 rcases ht2 with rfl | rfl
 ·exact (show Tryz.prog.wantsStandIn 22 = false by kernel_rfl)
 ·exact (show Tryz.prog.wantsStandIn 22 = false by kernel_rfl)
theorem card : Rows.ShowApartCardSaid :=
 Claim7.holds_tied_plain_at .later [] _ _ _ _ over (fun _ h => by cases h) (by kernel_rfl) (fun _ h => by cases h) showApart_row_tie rfl ⟨rfl, rfl⟩ (by kernel_rfl) rfl plain (by kernel_rfl)

end showApart
theorem showApart_holds : Rows.ShowApartCardSaid := showApart.card
#print axioms showApart_holds

end Go.Proofs.YtklipelnjgpnjaaGreatDoor
