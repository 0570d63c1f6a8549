/-
  For every list of blocks riddlelaw18.LinePrograms returns true and leaves what was there as it was: no condition of ours.
-/
import Derived.Test.YtelgfegkobkhiaaLnJ
import Derived.Test.YtelgfegkobkhiaaLotP44
import Derived.Test.YtelgfegkobkhiaaGrZb
import Derived.Test.YtelgfegkobkhiaaLotP49
import Derived.Test.YtelgfegkobkhiaaOpenB
namespace Go.Proofs.Ytelgfegkobkhiaa
open Go.ChangeShapes Go.WideShapes Go.ChangeAt Go.RowKit
set_option maxRecDepth 100000
namespace linePrograms

theorem lin_len (g : List Bk) : (linG g).length ≤ 4096 := by
  unfold linG
  split
  · rename_i h
    rw [linE] at h
    by_cases h1 : (gckG g).2 = 0
    · rw [if_pos h1] at h
      by_cases h2 : 4096 < countG measE g
      · rw [if_pos h2] at h; cases h
      · have := (prog_taken (taken_g h1) (by omega)).2
        omega
    · rw [if_neg h1] at h; cases h
  · simp
theorem lin_ok {g : List Bk} (h : linE g = 0) : TakenG g ∧ checkV (linG g) = (0, 0) ∧ (linG g).length ≤ countG measE g := by
  have e : linG g = progG g := by rw [linG, if_pos h]
  rw [e]
  rw [linE] at h
  by_cases h1 : (gckG g).2 = 0
  · rw [if_pos h1] at h
    by_cases h2 : 4096 < countG measE g
    · rw [if_pos h2] at h; cases h
    · exact ⟨taken_g h1, prog_taken (taken_g h1) (by omega)⟩
  · rw [if_neg h1] at h; cases h
theorem icv {w : World} {base n c : Nat} {a : Option Addr} {P : List In} (O : w.ownsRow base 45 4 (.slice a n c) P.length (flat P)) : CV w a (flat P) ∧ (a = none → c = 0) := by
  obtain ⟨x1, x2, x3, x4, -, -, x5, -⟩ := cv_of_row O
  injection x3 with e1 e2 e3
  subst e1 e3
  exact ⟨x4, x5⟩

set_option maxHeartbeats 8000000 in
theorem walk (a : Option Addr) (ca : Nat) (xs : List Bv) (w : World) (ha : GC w a xs) (_hc0 : a = none → ca = 0) (_hc1 : xs.length ≤ ca) (_hc2 : ca ≤ maxLen) (hn : xs.length * 56 ≤ 140737488351232) (hm : ∀ x ∈ xs, x.b.code.length * 8 ≤ 140737488351232) :
    Calls Try.prog 3 #[.slice a xs.length ca] w fun e w' => e = .returned (.bool true) ∧ w.grownBy w' none := by
  have hlen : ∀ x ∈ xs, x.b.code.length ≤ 4611686018427387904 := fun x hx => by have := hm x hx; omega
  have CC := code18_any a ca xs w ha hlen
  have H : Hid (GC w a xs) := ha
  have HM : Hid (∀ x ∈ xs, x.b.code.length * 8 ≤ 140737488351232) := hm
  have HZL : Hid (∀ ys : List Bv, gOf ys = gOf xs → ∀ y ∈ ys, y.b.code.length ≤ 4611686018427387904) := fun ys hy y hyy => by
    have h1 : y.b ∈ gOf xs := by rw [← hy]; exact List.mem_map.2 ⟨y, hyy, rfl⟩
    obtain ⟨x, hx, hxb⟩ := List.mem_map.1 h1
    rw [← hxb]
    exact hlen x hx
  clear ha hm hlen
  obtain ⟨E, hE⟩ : ∃ E, linE (gOf xs) = E := ⟨_, rfl⟩
  obtain ⟨P, hP⟩ : ∃ P, linG (gOf xs) = P := ⟨_, rfl⟩
  have hPl := lin_len (gOf xs)
  rw [hP] at hPl
  have HE : Hid (linE (gOf xs) = E ∧ linG (gOf xs) = P) := ⟨hE, hP⟩
  rw [hE] at CC
  clear hE hP
  go_enter Try.func3, Try.ntmps3
  go_wp2_with fail
  refine CC.mono ?_
  rintro e w1 ⟨rfl, G1⟩
  clear CC
  go_wp2_with fail
  refine (blend_any a ca xs w1 (H.out.keptNone G1) (by omega) HM.out).mono ?_
  rintro e w2 ⟨v, ys, rfl, B, hy, K2⟩
  have HB2 : Hid (BHi w2.heap.size v ys) := B.hi
  have HY : Hid (gOf ys = gOf xs) := hy
  obtain ⟨g, cap, hv, h1, h2, h3, hrow, hil, hap⟩ := id B
  have HL2 : Hid (∀ W, w2.grownBy W none → BLent W w1.heap.size v ys) := fun W G => ⟨g, cap, hv, h1, h2, h3, owns_keptNone hrow G, fun x hx => (hil x hx).keptNone G, hap⟩
  have HG2 : Hid (GC w2 (some ⟨g, 0, none⟩) ys) := ⟨(bcv_front hrow).1, fun y hyy => by
    obtain ⟨-, h2, h3, h4, -⟩ := (hil y hyy).cv
    exact ⟨h2, h3, h4⟩⟩
  have HK2 : Hid (w1.grownBy w2 none) := K2
  have HG1 : Hid (w.grownBy w1 none) := G1
  have CL := linear_any (some ⟨g, 0, none⟩) cap ys w2 HG2.out (HZL.out ys hy)
  rw [hy, HE.out.1, HE.out.2, ← hv] at CL
  clear B hy hrow hil hap h1 h2 h3 hv K2 G1
  go_wp2_with fail
  refine CL.mono ?_
  rintro e w3 ⟨X, rfl, X3, K3⟩
  have CK := bkept2_any w1 a ca v xs ys w3 (HL2.out w3 K3) (H.out.keptNone HG1.out) (grown_trans HK2.out K3) HY.out (by omega) HM.out w2.heap.size HB2.out
  have HX3 : Hid (IOwns w3 w2.heap.size X P) := X3
  have HS2 : Hid (w.heap.size ≤ w2.heap.size) := Nat.le_trans HG1.out.size HK2.out.size
  clear CL K3 HL2 HG2 HB2 HK2 X3
  go_wp2_with fail
  refine CK.mono ?_
  rintro e w4 ⟨rfl, K4, I4⟩
  have G4 := grown_trans HG1.out K4
  have X4 : IOwns w4 w2.heap.size X P := I4.owns HX3.out (fun z hz => (HX3.out.lt z hz).1)
  clear CK K4 I4 HX3
  have CB := bcopy_any a ca xs w4 (H.out.keptNone G4) (by omega) HM.out
  go_wp2_with fail
  refine CB.mono ?_
  rintro e w5 ⟨v5, zs, rfl, B5, hz, K5⟩
  have G5 := grown_trans G4 K5
  have X5 : IOwns w5 w2.heap.size X P := owns_keptNone X4 K5
  obtain ⟨a5, c5, rfl, gc5, -⟩ := B5.gc
  have CL5 := linear_any a5 c5 zs w5 gc5 (HZL.out zs hz)
  rw [hz, HE.out.1, HE.out.2] at CL5
  clear CB X4 K5 B5 gc5 G4 hz
  go_wp2_with fail
  refine CL5.mono ?_
  rintro e w6 ⟨Y, rfl, Y6, K6⟩
  have G6 := grown_trans G5 K6
  have HX6 : Hid (IOwns w6 w2.heap.size X P ∧ ∀ z, X.ownBlock = some z → z < w5.heap.size) := ⟨owns_keptNone X5 K6, fun z hz => (X5.lt z hz).2⟩
  have HY6 : Hid (IOwns w6 w5.heap.size Y P) := Y6
  have HW6 : Hid (w5.heap.size ≤ w6.heap.size) := K6.size
  obtain ⟨xa, xc, hX⟩ := own_slice HX6.out.1
  subst hX
  obtain ⟨ya, yc, hY⟩ := own_slice HY6.out
  subst hY
  clear CL5 X5 K6 G5 Y6
  have hEE : (E != E) = false := by simp
  go_wp2_with fail
  refine (isame_any xa ya xc yc P w6 (icv HX6.out.1).1 (icv HY6.out).1 (by omega)).mono ?_
  rintro e w7 ⟨rfl, nd, rfl⟩
  have Kd := grown_drewN w6 nd none
  generalize w6.drewN nd = w7 at *
  have G7 := grown_trans G6 Kd
  have HX7 : Hid (IOwns w7 w2.heap.size (.slice xa P.length xc) P ∧ ∀ z, (Value.slice xa P.length xc).ownBlock = some z → z < w5.heap.size) := ⟨owns_keptNone HX6.out.1 Kd, HX6.out.2⟩
  have HY7 : Hid (IOwns w7 w5.heap.size (.slice ya P.length yc) P) := owns_keptNone HY6.out Kd
  have HW7 : Hid (w5.heap.size ≤ w7.heap.size) := Nat.le_trans HW6.out Kd.size
  clear HX6 HY6 Kd G6 HW6
  by_cases h0 : E = 0
  · subst h0
    obtain ⟨hT, hck, hml⟩ := lin_ok HE.out.1
    rw [HE.out.2] at hck hml
    have HCK : Hid (TakenG (gOf xs) ∧ P.length ≤ countG measE (gOf xs)) := ⟨hT, hml⟩
    have CH := refcheck_any xa xc P w7 (icv HX7.out.1).1
    rw [hck] at CH
    clear hck hml hT
    go_wp2_with fail
    refine CH.mono ?_
    rintro e w8 ⟨rfl, K8⟩
    have G8 := grown_trans G7 K8
    have HX8 : Hid (IOwns w8 w2.heap.size (.slice xa P.length xc) P ∧ ∀ z, (Value.slice xa P.length xc).ownBlock = some z → z < w5.heap.size) := ⟨owns_keptNone HX7.out.1 K8, HX7.out.2⟩
    have HY8 : Hid (IOwns w8 w5.heap.size (.slice ya P.length yc) P) := owns_keptNone HY7.out K8
    have HW8 : Hid (w5.heap.size ≤ w8.heap.size) := Nat.le_trans HW7.out K8.size
    clear CH K8 HX7 HY7 G7 HW7
    go_wp2_with fail
    refine (icopy_any ya yc P w8 (icv HY8.out).1 (icv HY8.out).2 (by omega)).mono ?_
    rintro e w9 ⟨Z, rfl, Z9, K9⟩
    have G9 := grown_trans G8 K9
    have HX9 : Hid (IOwns w9 w2.heap.size (.slice xa P.length xc) P ∧ ∀ z, (Value.slice xa P.length xc).ownBlock = some z → z < w5.heap.size) := ⟨owns_keptNone HX8.out.1 K9, HX8.out.2⟩
    have HY9 : Hid (IOwns w9 w5.heap.size (.slice ya P.length yc) P) := owns_keptNone HY8.out K9
    have HZ9 : Hid (IOwns w9 w5.heap.size Z P) := owns_mono Z9 HW8.out
    obtain ⟨za, zc, hZ⟩ := own_slice Z9
    subst hZ
    clear K9 HX8 HY8 G8 Z9
    go_wp2_with fail
    refine (spi_any w9 (SpI.of HX9.out.1 (by omega))).mono ?_
    rintro e w10 ⟨rfl, K10, -⟩
    have G10 : w.grownBy w10 none := grown_trans_new G9 K10 (fun z hz => by have := (HX9.out.1.lt z hz).1; have := HS2.out; omega)
    have HY10 : Hid (IOwns w10 w5.heap.size (.slice ya P.length yc) P) := HY9.out.kept K10 (by
      by_cases hx : (Value.slice xa P.length xc).ownBlock = none
      · rw [hx]; cases h : (Value.slice ya P.length yc).ownBlock <;> simp
      · refine .inr fun e => ?_
        obtain ⟨z, hz⟩ := Option.ne_none_iff_exists'.1 hx
        have h1 := HX9.out.2 z hz
        have h2 := (HY9.out.lt z (e.trans hz)).1
        omega)
    have HZ10 : Hid (IOwns w10 w5.heap.size (.slice za P.length zc) P) := HZ9.out.kept K10 (by
      by_cases hx : (Value.slice xa P.length xc).ownBlock = none
      · rw [hx]; cases h : (Value.slice za P.length zc).ownBlock <;> simp
      · refine .inr fun e => ?_
        obtain ⟨z, hz⟩ := Option.ne_none_iff_exists'.1 hx
        have h1 := HX9.out.2 z hz
        have h2 := (HZ9.out.lt z (e.trans hz)).1
        omega)
    clear K10 HX9 HY9 HZ9 G9
    have CM := refmeasure_any a ca xs w10 (H.out.keptNone G10) HCK.out.1
    obtain ⟨M, hM⟩ : ∃ M, countG measE (gOf xs) = M := ⟨_, rfl⟩
    have hPM : (P.length : Int) ≤ (M : Int) := by have := HCK.out.2; omega
    rw [hM] at CM
    clear hM HCK
    go_wp2_with fail
    refine CM.mono ?_
    rintro e w11 ⟨rfl, K11⟩
    have G11 := grown_trans G10 K11
    have HY11 : Hid (IOwns w11 w5.heap.size (.slice ya P.length yc) P) := owns_keptNone HY10.out K11
    have HZ11 : Hid (IOwns w11 w5.heap.size (.slice za P.length zc) P) := owns_keptNone HZ10.out K11
    clear CM K11 HY10 HZ10 G10
    go_wp2_with fail
    refine (isame_any ya za yc zc P w11 (icv HY11.out).1 (icv HZ11.out).1 (by omega)).mono ?_
    rintro e w12 ⟨rfl, nd, rfl⟩
    have G12 := grown_trans G11 (grown_drewN w11 nd none)
    generalize w11.drewN nd = w12 at *
    clear HY11 HZ11 G11
    go_wp2_with fail
    refine (awake18_any _).mono ?_
    rintro e w13 ⟨rfl, K13⟩
    go_wp2
    go_ret
    exact ⟨rfl, grown_trans G12 K13⟩
  · have h0' : (E != 0) = true := by simpa using h0
    have hP0 : P = [] := by rw [← HE.out.2, linG, if_neg (by rw [HE.out.1]; exact h0)]
    subst hP0
    clear HX7 HY7 h0
    simp only [List.length_nil]
    go_wp2_with fail
    refine (awake18_any _).mono ?_
    rintro e w13 ⟨rfl, K13⟩
    go_wp2
    go_ret
    exact ⟨rfl, grown_trans G7 K13⟩

set_option maxRecDepth 100000 in
theorem lifted (os : Os) (started : os.Started) (H : Type) (enc : TypeId × Value → H) :
    ReturnsInHanded {} Try.checked os 3 .any (Rows.lineProgramsSpec.pre6 enc Try.prog Try.f3 Rows.lineProgramsRow.domain false) (Rows.lineProgramsSpec.post enc Try.prog Try.f3 false true false false) := by
  refine returnsInHanded_of_change_sized (C := Try.checked) own started (by kernel_rfl) Try.func3
    (ChangeSpec.witness6 (enc := enc) (C := Try.checked) false ⟨#[], #[.slice none 0 0], []⟩ 8 (by kernel_rfl) (by kernel_rfl) (by kernel_rfl) (by kernel_rfl)) ?_
  intro W base args ds gs before hval0 hW hcnd hsz0 _
  have hsz : (DataW.weightsEach Try.prog (Try.f3.params.toList ++ Rows.lineProgramsSpec.plain.varTypes Try.prog) (ds ++ gs)).all (· ≤ reachBytes) = true := hsz0
  have hval : ∀ (j : Nat) t v, Try.f3.params[j]? = some t → args[j]? = some v → Value.okWide Try.prog W .any base t v := hval0
  have hW' := hW
  obtain ⟨p, q, hA0, hV, rfl, hfz, hnd⟩ := hW
  have hA : DataW.TrodAll enc Try.prog W 0 (fun _ => true) true Try.f3.params.toList args.toList ds p := hA0
  rw [Try.params3] at hA hval hsz
  obtain ⟨v0, vs0, d0, ds0, p0, q0, hargs, rfl, rfl, h0, r0⟩ := trodAll_cons hA
  obtain ⟨rfl, rfl, rfl⟩ := trodAll_nil r0
  obtain rfl : args = #[v0] := by cases args; simp_all
  obtain ⟨rfl, rfl⟩ := trodVars_none hV
  obtain ⟨a0, len0, cap0, rfl⟩ := okWide_slice Try.underlying22 (hval 0 22 v0 rfl rfl)
  have k0 := h0
  have lt0 : ∀ x ∈ p0, x.block < W.heap.size := by obtain ⟨m, hm⟩ := k0; exact DataW.trod_lt m _ _ _ hm
  obtain ⟨xs0, rfl, hgc0, hnil0, hcp0, hdat0⟩ := open_blocks h0
  have hlen0 := sized_blocks hsz (j := 0) rfl rfl hdat0
  clear hA0 hval0
  refine (walk a0 cap0 xs0 W hgc0 hnil0 hcp0.1 hcp0.2 hlen0.1 hlen0.2).mono fun e W' ⟨he, hg⟩ => ?_
  subst he
  have bel : Below W.heap.size W W' := (Below.refl _ _).grown hg (Nat.le_refl _) (by simp)
  exact ⟨_, rfl, _, _, _, [], _, [], hW', trodAll_mk1 (shut_bool Try.underlying4 _), (trodAll_cons_mk (Below.trod laidOut (by kernel_rfl) (of_decide_eq_true (by kernel_rfl)) k0 bel lt0) trodAll_mk0), rfl, bel.frame _, fun h => by cases h⟩

theorem over : Rows.LineProgramsSaid :=
  OpenClaim.holds_of_wide 3 Try.f3 rfl rfl rfl rfl rfl rfl rfl ⟨rfl, rfl, rfl, rfl, rfl⟩ rfl rfl rfl rfl rfl (by kernel_rfl) Try.func3 (by kernel_rfl)
    (of_decide_eq_true (by kernel_rfl)) (by unfold Func.isWrapper; first | (rw [if_pos (by decide +kernel)]; kernel_rfl) | (rw [if_neg (by decide +kernel)]; exact ⟨rfl, rfl⟩))
    (fun os started H enc _ => lifted os started H enc)

end linePrograms

theorem linePrograms_holds : Rows.LineProgramsSaid := linePrograms.over
#print axioms linePrograms_holds

end Go.Proofs.Ytelgfegkobkhiaa
