/-
  For every two lists of instructions (each capacity at most 2^47 - 4096 bytes, as the form itself says of each argument) riddlelaw2.InsnJoins returns true and leaves what was there as it was: no condition of ours.
-/
import Derived.Test.YtoimhggpblkcgaaOpenI
import Derived.Test.YtoimhggpblkcgaaAwake2
import Derived.Test.YtoimhggpblkcgaaInsnBackP
import Derived.Test.YtoimhggpblkcgaaJoins2
namespace Go.Proofs.Ytoimhggpblkcgaa
open Go.ChangeShapes Go.WideShapes Go.ChangeAt Go.RowKit
open Go.ChangeMaps (open_string shut_string)
namespace insnJoins

theorem encode_ok (a : Option Addr) (ca : Nat) (xs : List In) (h : xs.length ≤ 4096) (w : World) (ha : CV w a (flat xs)) :
    Calls Try.prog 17 #[.slice a xs.length ca] w fun e w' => MadeE w w' e (encS xs) 0 := by
  have k := encode_any a ca xs w ha (by omega)
  have e1 : encE xs = 0 := by simp [encE, h]
  have e2 : encV xs = encS xs := by simp [encV, h]
  rw [e1, e2] at k
  exact k

theorem isame_len (a b : Option Addr) (n ca cb : Nat) (xs : List In) (hx : xs.length = n) (w : World) (ha : CV w a (flat xs)) (hb : CV w b (flat xs)) (hm : xs.length ≤ 9223372036854775807) :
    Calls Try.prog 27 #[.slice a n ca, .slice b n cb] w fun e w' => e = .returned (.bool true) ∧ ∃ n, w' = w.drewN n := by
  subst hx
  exact isame_any a b ca cb xs w ha hb hm

set_option maxRecDepth 100000 in
set_option maxHeartbeats 4000000 in
theorem walk (a : Option Addr) (ca : Nat) (xs : List In) (b : Option Addr) (cb : Nat) (ys : List In) (w : World) (ha : CV w a (flat xs)) (ha0 : a = none → ca = 0) (_hca : xs.length ≤ ca) (_hcm : ca ≤ maxLen) (hn : xs.length * 8 ≤ 140737488351232)
    (hb : CV w b (flat ys)) (hb0 : b = none → cb = 0) (_hcb : ys.length ≤ cb) (_hcn : cb ≤ maxLen) (hbn : ys.length * 8 ≤ 140737488351232) :
    Calls Try.prog 7 #[.slice a xs.length ca, .slice b ys.length cb] w fun e w' => e = .returned (.bool true) ∧ w.grownBy w' none := by
  have HA : Hid (CV w a (flat xs)) := ha
  have HB : Hid (CV w b (flat ys)) := hb
  clear ha hb
  by_cases h1 : 2048 < xs.length
  · have h1i : (2048 : Int) < (xs.length : Int) := by omega
    go_enter Try.func7, Try.ntmps7
    go_wp2_with fail
    refine (awake2_any _).mono ?_
    rintro e w1 ⟨rfl, G1⟩
    go_wp2
    go_ret
    exact ⟨rfl, G1⟩
  by_cases h2 : 2048 < ys.length
  · have h1i : decide ((2048 : Int) < (xs.length : Int)) = false := decide_eq_false (by omega)
    have h2i : (2048 : Int) < (ys.length : Int) := by omega
    go_enter Try.func7, Try.ntmps7
    go_wp2_with fail
    refine (awake2_any _).mono ?_
    rintro e w1 ⟨rfl, G1⟩
    go_wp2
    go_ret
    exact ⟨rfl, G1⟩
  have h1i : ¬ (2048 : Int) < (xs.length : Int) := by omega
  have h2i : ¬ (2048 : Int) < (ys.length : Int) := by omega
  have lA := encS_len xs
  have lB := encS_len ys
  have hsum : (xs ++ ys).length = xs.length + ys.length := List.length_append
  have hde := dec_enc (xs ++ ys) (by omega)
  rw [encS_append] at hde
  obtain ⟨i0, hi, hz0, hz1, hz2⟩ := info_parts info50
  have HX : Hid (∀ (a : Option Addr) (ca : Nat) (W : World), CV W a (flat xs) → Calls Try.prog 17 #[.slice a xs.length ca] W fun e w' => MadeE W w' e (encS xs) 0) := fun a ca W h => encode_ok a ca xs (by omega) W h
  have HY : Hid (∀ (a : Option Addr) (ca : Nat) (W : World), CV W a (flat ys) → Calls Try.prog 17 #[.slice a ys.length ca] W fun e w' => MadeE W w' e (encS ys) 0) := fun a ca W h => encode_ok a ca ys (by omega) W h
  have HZ : Hid (∀ (a : Option Addr) (ca : Nat) (W : World), CV W a (flat (xs ++ ys)) → Calls Try.prog 17 #[.slice a (xs.length + ys.length) ca] W fun e w' => MadeE W w' e (encS xs ++ encS ys) 0) := fun a ca W h => by
    have k := encode_ok a ca (xs ++ ys) (by omega) W h
    rw [hsum, encS_append] at k
    exact k
  obtain ⟨A, hA⟩ : ∃ A, encS xs = A := ⟨_, rfl⟩
  obtain ⟨B, hB⟩ : ∃ B, encS ys = B := ⟨_, rfl⟩
  rw [hA] at HX HZ lA hde
  rw [hB] at HY HZ lB hde
  have hlAB : (A ++ B).length = A.length + B.length := List.length_append
  have HD : Hid (∀ (a : Option Addr) (ca : Nat) (W : World), Cells W a (A ++ B) → Calls Try.prog 24 #[.slice a (A ++ B).length ca] W fun e w' => IMadeE W w' e (xs ++ ys) 0) := fun a ca W h => by
    have k := decode_any a ca (A ++ B) W h (by omega)
    rw [hde.1, hde.2] at k
    exact k
  obtain ⟨AB, hAB⟩ : ∃ AB, A ++ B = AB := ⟨_, rfl⟩
  rw [hAB] at HD HZ hlAB
  have HAB : Hid (A ++ B = AB) := hAB
  have hABl : AB.length ≤ 32768 := by omega
  clear hA hB hde hAB hlAB
  have HS : Hid ((xs ++ ys).length = xs.length + ys.length) := hsum
  have lAs : A.length ≤ 16384 := by omega
  have lBs : B.length ≤ 16384 := by omega
  clear hsum lA lB
  go_enter Try.func7, Try.ntmps7
  go_wp2_with fail
  refine (icopy_any a ca xs _ HA.out ha0 (by omega)).mono ?_
  rintro e w1 ⟨v1, rfl, O1, G1⟩
  obtain ⟨a1, c1, rfl, C1, -⟩ := cv_of_row O1
  clear O1
  go_wp2_with fail
  refine (HX.out a1 c1 _ C1).mono ?_
  rintro e w2 ⟨v2, rfl, O2, K2⟩
  obtain ⟨a2, c2, rfl, A2, n2, BA, -⟩ := O2.rd
  have G2 := grown_trans G1 K2
  clear O2 K2 C1 G1
  go_wp2_with fail
  refine (icopy_any b cb ys _ (HB.out.keptNone G2) hb0 (by omega)).mono ?_
  rintro e w3 ⟨v3, rfl, O3, K3⟩
  obtain ⟨a3, c3, rfl, C3, -⟩ := cv_of_row O3
  have G3 := grown_trans G2 K3
  have A3 := A2.keptNone K3
  have s23 := K3.size
  clear O3 K3 A2 G2
  go_wp2_with fail
  refine (HY.out a3 c3 _ C3).mono ?_
  rintro e w4 ⟨v4, rfl, O4, K4⟩
  obtain ⟨a4, c4, rfl, B4, n4, BB, -⟩ := O4.rd
  have s24 : w2.heap.size ≤ w4.heap.size := by have := K4.size; have := s23; omega
  have G4 := grown_trans G3 K4
  have A4 := A3.keptNone K4
  clear O4 K4 A3 G3 C3
  go_wp2_with fail
  refine (icopy_any a ca xs _ (HA.out.keptNone G4) ha0 (by omega)).mono ?_
  rintro e w5 ⟨v5, rfl, O5, K5⟩
  have G5 := grown_trans G4 K5
  have A5 := A4.keptNone K5
  have B5 := B4.keptNone K5
  have s4 := G4.size
  have s5 := K5.size
  clear K5 A4 B4 G4
  go_wp2_with (at_builtin; refine wpList_append_cv rfl (.tmp 36) (.tmp 37) 28 rfl 50 i0 _ 4 8 Try.underlying28 hi hz0 hz1 hz2 rfl (by decide) w4.heap.size v5 xs.length (flat xs) rfl O5 b ys.length cb (flat ys) rfl (flat_len ys) hb0 ?q2 (flat_one ys) ?q3 ?q4 ?q5 ?q6)
  case q2 => exact HB.out.keptNone G5
  case q3 => unfold maxLen; omega
  case q4 => omega
  case q5 => omega
  case q6 =>
    intro v6 w6 O6 K6
    have G6 : w.grownBy w6 none := grown_trans_new G5 K6 (fun z hz => by have := (O5.lt z hz).1; omega)
    have A6 := A5.keptUp w4.heap.size (fun ad had => by have := (BA ad had).2; omega) K6 (fun z hz => (O5.lt z hz).1)
    have B6 := B5.keptUp w4.heap.size (fun ad had => (BB ad had).2) K6 (fun z hz => (O5.lt z hz).1)
    rw [← flat_append] at O6
    obtain ⟨a6, c6, rfl, C6, -⟩ := cv_of_row O6
    clear K6 A5 B5 O5 O6 G5
    go_wp2_with fail
    refine (HZ.out a6 c6 _ C6).mono ?_
    rintro e w7 ⟨v7, rfl, O7, K7⟩
    obtain ⟨a7, c7, rfl, D7, -⟩ := O7.rd
    have G7 := grown_trans G6 K7
    have A7 := A6.keptNone K7
    have B7 := B6.keptNone K7
    clear K7 A6 B6 O7 G6 C6
    go_wp2_with fail
    refine (jn2 w7 a2 a4 c2 c4 A B A7 n2 B7 n4 (by omega)).mono ?_
    rintro e w8 ⟨v8, rfl, O8, K8⟩
    rw [HAB.out] at O8
    obtain ⟨a8, c8, rfl, J8, -⟩ := Owns.rd (xs := AB) O8
    have G8 := grown_trans G7 K8
    have A8 := A7.keptNone K8
    have B8 := B7.keptNone K8
    have D8 := D7.keptNone K8
    clear K8 A7 B7 D7 O8 G7
    go_wp2_with fail
    refine (HD.out a8 c8 _ J8).mono ?_
    rintro e w9 ⟨v9, rfl, O9, K9⟩
    unfold IOwns at O9
    rw [HS.out] at O9
    obtain ⟨a9, c9, rfl, E9, -⟩ := cv_of_row O9
    have G9 := grown_trans G8 K9
    have A9 := A8.keptNone K9
    have B9 := B8.keptNone K9
    have D9 := D8.keptNone K9
    clear K9 A8 B8 D8 O9 G8 J8
    go_wp2_with fail
    refine (jn2 w9 a2 a4 c2 c4 A B A9 n2 B9 n4 (by omega)).mono ?_
    rintro e w10 ⟨v10, rfl, O10, K10⟩
    rw [HAB.out] at O10
    obtain ⟨a10, c10, rfl, J10, -⟩ := Owns.rd (xs := AB) O10
    have G10 := grown_trans G9 K10
    have D10 := D9.keptNone K10
    have E10 := E9.keptNone K10
    have s10 := K10.size
    clear K10 A9 B9 D9 E9 O10
    go_wp2_with fail
    refine (same_any a7 a10 c7 c10 AB _ D10 J10 (by omega)).mono ?_
    rintro e w11 ⟨rfl, n11, rfl⟩
    have G11 := grown_trans G10 (grown_drewN w10 n11 none)
    have E11 : CV (w10.drewN n11) a9 (flat (xs ++ ys)) := E10
    clear D10 J10 E10 G10
    generalize w10.drewN n11 = w11 at *
    go_wp2_with fail
    refine (icopy_any a ca xs _ (HA.out.keptNone G11) ha0 (by omega)).mono ?_
    rintro e w12 ⟨v12, rfl, O12, K12⟩
    have G12 := grown_trans G11 K12
    have E12 := E11.keptNone K12
    have hE12 : ∀ ad, a9 = some ad → flat (xs ++ ys) ≠ [] → ad.block < w11.heap.size := fun ad had hne => E11.under had hne
    have s11 := G11.size
    have s12 := K12.size
    clear K12 E11 G11
    go_wp2_with (at_builtin; refine wpList_append_cvg (by rfl) (.tmp 75) (.tmp 76) 28 rfl 50 i0 _ 4 8 Try.underlying28 hi hz0 hz1 hz2 rfl (by decide) w11.heap.size v12 xs.length (flat xs) rfl O12 b ys.length cb (flat ys) rfl (flat_len ys) hb0 ?r2 (flat_one ys) ?r3 ?r4 ?r5 ?r6)
    case r2 => exact HB.out.keptNone G12
    case r3 => unfold maxLen; omega
    case r4 => omega
    case r5 => omega
    case r6 =>
      intro v13 w13 O13 K13
      have G13 : w.grownBy w13 none := grown_trans_new G12 K13 (fun z hz => by have := (O12.lt z hz).1; omega)
      have E13 := E12.kept K13 (fun ad had hne e => by have := hE12 ad had hne; have := (O12.lt ad.block e.symm).1; omega)
      rw [← flat_append] at O13
      obtain ⟨a13, c13, rfl, F13, -⟩ := cv_of_row O13
      clear K13 E12 O12 O13 G12 hE12 hi hz0 hz1 hz2 i0
      go_wp2_with fail
      refine (isame_len a9 a13 _ c9 c13 (xs ++ ys) HS.out _ E13 F13 (by have := HS.out; omega)).mono ?_
      rintro e w14 ⟨rfl, n14, rfl⟩
      have G14 := grown_trans G13 (grown_drewN w13 n14 none)
      clear E13 F13 G13
      generalize w13.drewN n14 = w14 at *
      go_wp2_with fail
      refine (awake2_any _).mono ?_
      rintro e w15 ⟨rfl, K15⟩
      have G15 := grown_trans G14 K15
      clear K15 G14
      go_wp2
      go_ret
      exact ⟨rfl, G15⟩

set_option maxRecDepth 100000 in
theorem lifted (os : Os) (started : os.Started) (H : Type) (enc : TypeId × Value → H) :
    ReturnsInHanded {} Try.checked os 7 .any (Rows.insnJoinsSpec.pre6 enc Try.prog Try.f7 Rows.insnJoinsRow.domain false) (Rows.insnJoinsSpec.post enc Try.prog Try.f7 false true false false) := by
  refine returnsInHanded_of_change_sized (C := Try.checked) own started (by kernel_rfl) Try.func7
    (ChangeSpec.witness6 (enc := enc) (C := Try.checked) false ⟨#[], #[.slice none 0 0, .slice none 0 0], []⟩ 8 (by kernel_rfl) (by kernel_rfl) (by kernel_rfl) (by kernel_rfl)) ?_
  intro W base args ds gs before hval0 hW hcnd hsz0 _
  have hsz : (DataW.weightsEach Try.prog (Try.f7.params.toList ++ Rows.insnJoinsSpec.plain.varTypes Try.prog) (ds ++ gs)).all (· ≤ reachBytes) = true := hsz0
  have hval : ∀ (j : Nat) t v, Try.f7.params[j]? = some t → args[j]? = some v → Value.okWide Try.prog W .any base t v := hval0
  have hW' := hW
  obtain ⟨p, q, hA0, hV, rfl, hfz, hnd⟩ := hW
  have hA : DataW.TrodAll enc Try.prog W 0 (fun _ => true) true Try.f7.params.toList args.toList ds p := hA0
  rw [Try.params7] at hA hval hsz
  obtain ⟨v0, vs0, d0, ds0, p0, q0, hargs, rfl, rfl, h0, r0⟩ := trodAll_cons hA
  obtain ⟨v1, vs1, d1, ds1, p1, q1, rfl, rfl, rfl, h1, r1⟩ := trodAll_cons r0
  obtain ⟨rfl, rfl, rfl⟩ := trodAll_nil r1
  obtain rfl : args = #[v0, v1] := by cases args; simp_all
  obtain ⟨rfl, rfl⟩ := trodVars_none hV
  obtain ⟨a0, len0, cap0, rfl⟩ := okWide_slice Try.underlying28 (hval 0 28 v0 rfl rfl)
  have k0 := h0
  have lt0 : ∀ x ∈ p0, x.block < W.heap.size := by obtain ⟨m, hm⟩ := k0; exact DataW.trod_lt m _ _ _ hm
  obtain ⟨xs0, rfl, hcells0, hnil0, hcp0, hdat0⟩ := open_insns h0
  obtain ⟨a1, len1, cap1, rfl⟩ := okWide_slice Try.underlying28 (hval 1 28 v1 rfl rfl)
  have k1 := h1
  have lt1 : ∀ x ∈ p1, x.block < W.heap.size := by obtain ⟨m, hm⟩ := k1; exact DataW.trod_lt m _ _ _ hm
  obtain ⟨xs1, rfl, hcells1, hnil1, hcp1, hdat1⟩ := open_insns h1
  have hlen0 : xs0.length * 8 ≤ 140737488351232 := by
    rcases hdat0 with ⟨_, rfl⟩ | ⟨elems, spare, rfl, hle⟩
    · simp
    · have := sized_slice hsz (j := 0) (t := 28) (e := 50) rfl rfl Try.underlying28
      rw [bytes50] at this
      unfold reachBytes at this
      omega
  have hlen1 : xs1.length * 8 ≤ 140737488351232 := by
    rcases hdat1 with ⟨_, rfl⟩ | ⟨elems, spare, rfl, hle⟩
    · simp
    · have := sized_slice hsz (j := 1) (t := 28) (e := 50) rfl rfl Try.underlying28
      rw [bytes50] at this
      unfold reachBytes at this
      omega
  clear hA0 hval0
  refine (walk a0 cap0 xs0 a1 cap1 xs1 W hcells0 hnil0 hcp0.1 hcp0.2 (by omega) hcells1 hnil1 hcp1.1 hcp1.2 (by omega)).mono fun e W' ⟨he, hg⟩ => ?_
  subst he
  have bel : Below W.heap.size W W' := (Below.refl _ _).grown hg (Nat.le_refl _) (by simp)
  exact ⟨_, rfl, _, _, _, [], _, [], hW', trodAll_mk1 (shut_bool Try.underlying4 _), (trodAll_cons_mk (Below.trod laidOut (by kernel_rfl) (of_decide_eq_true (by kernel_rfl)) k0 bel lt0) (trodAll_cons_mk (Below.trod laidOut (by kernel_rfl) (of_decide_eq_true (by kernel_rfl)) k1 bel lt1) trodAll_mk0)), rfl, bel.frame _, fun h => by cases h⟩

theorem over : Rows.InsnJoinsSaid :=
  OpenClaim.holds_of_wide 7 Try.f7 rfl rfl rfl rfl rfl rfl rfl ⟨rfl, rfl, rfl, rfl, rfl⟩ rfl rfl rfl rfl rfl (by kernel_rfl) Try.func7 (by kernel_rfl)
    (of_decide_eq_true (by kernel_rfl)) (by unfold Func.isWrapper; first | (rw [if_pos (by decide +kernel)]; kernel_rfl) | (rw [if_neg (by decide +kernel)]; exact ⟨rfl, rfl⟩))
    (fun os started H enc _ => lifted os started H enc)

end insnJoins

theorem insnJoins_holds : Rows.InsnJoinsSaid := insnJoins.over
#print axioms insnJoins_holds
end Go.Proofs.Ytoimhggpblkcgaa
