/-
  For every list of blocks and every list of bytes riddlelaw18.LineRuns returns true and leaves what was there as it was: no condition of ours.
-/
import Derived.Test.YtelgfegkobkhiaaLnJ
import Derived.Test.YtelgfegkobkhiaaLotP44
import Derived.Test.YtelgfegkobkhiaaOpenB
namespace Go.Proofs.Ytelgfegkobkhiaa
open Go.ChangeShapes Go.WideShapes Go.ChangeAt Go.RowKit
set_option maxRecDepth 100000
namespace lineRuns

set_option maxHeartbeats 4000000 in
theorem walk (a : Option Addr) (ca : Nat) (xs : List Bv) (b : Option Addr) (cb : Nat) (pk : List UInt8) (w : World) (ha : GC w a xs) (_hc0 : a = none → ca = 0) (_hc1 : xs.length ≤ ca) (_hc2 : ca ≤ maxLen) (hn : xs.length * 56 ≤ 140737488351232) (hm : ∀ x ∈ xs, x.b.code.length * 8 ≤ 140737488351232)
    (hb : Cells w b pk) (_hd0 : b = none → cb = 0) (hpm : pk.length ≤ 140737488351232) :
    Calls Try.prog 4 #[.slice a xs.length ca, .slice b pk.length cb] w fun e w' => e = .returned (.bool true) ∧ w.grownBy w' none := by
  have hlen : ∀ x ∈ xs, x.b.code.length ≤ 4611686018427387904 := fun x hx => by have := hm x hx; omega
  have CC := code18_any a ca xs w ha hlen
  have H : Hid (GC w a xs) := ha
  have HP : Hid (Cells w b pk) := hb
  have HM : Hid (∀ x ∈ xs, x.b.code.length * 8 ≤ 140737488351232) := hm
  have HLN : Hid (∀ x ∈ xs, x.b.code.length ≤ 4611686018427387904) := hlen
  clear ha hb hm hlen
  obtain ⟨E, hE⟩ : ∃ E, linE (gOf xs) = E := ⟨_, rfl⟩
  have HE : Hid (linE (gOf xs) = E) := hE
  rw [hE] at CC
  clear hE
  go_enter Try.func4, Try.ntmps4
  go_wp2_with fail
  refine CC.mono ?_
  rintro e w1 ⟨rfl, G1⟩
  clear CC
  by_cases h0 : E = 0
  · subst h0
    by_cases hp : 65536 < pk.length
    · have hp' : (65536 : Int) < (pk.length : Int) := by omega
      go_wp2_with fail
      refine (awake18_any _).mono ?_
      rintro e w2 ⟨rfl, K2⟩
      go_wp2
      go_ret
      exact ⟨rfl, grown_trans G1 K2⟩
    · have hp' : ¬ (65536 : Int) < (pk.length : Int) := by omega
      have HG : Hid ((gckG (gOf xs)).2 = 0 ∧ countG measE (gOf xs) ≤ 4096) := by
        have h := HE.out
        rw [linE] at h
        by_cases h1 : (gckG (gOf xs)).2 = 0
        · rw [if_pos h1] at h
          by_cases h2 : 4096 < countG measE (gOf xs)
          · rw [if_pos h2] at h; cases h
          · exact ⟨h1, by omega⟩
        · rw [if_neg h1] at h; cases h
      have HS : Hid (runE (linG (gOf xs)) pk = 0 ∧ runGE (gOf xs) pk = 0 ∧ SimR (runV (linG (gOf xs)) pk) (runG (gOf xs) pk)) := by
        have := line_runs HG.out.1 HG.out.2 (pk := pk) (by omega)
        have e : linG (gOf xs) = progG (gOf xs) := by rw [linG, if_pos HE.out]
        rw [← e] at this
        exact this
      clear HG
      go_wp2_with fail
      refine (bcopy_any a ca xs w1 (H.out.keptNone G1) (by omega) HM.out).mono ?_
      rintro e w2 ⟨v, ys, rfl, B, hy, K2⟩
      obtain ⟨a2, c2, rfl, gc2, -⟩ := B.gc
      have hyl : ∀ y ∈ ys, y.b.code.length ≤ 4611686018427387904 := fun y hyy => by
        have h1 : y.b ∈ gOf xs := by rw [← hy]; exact List.mem_map.2 ⟨y, hyy, rfl⟩
        obtain ⟨x, hx, hxb⟩ := List.mem_map.1 h1
        rw [← hxb]
        exact HLN.out x hx
      have CL := linear_any a2 c2 ys w2 gc2 hyl
      rw [hy, HE.out] at CL
      have G2 := grown_trans G1 K2
      clear B gc2 hyl hy K2 G1
      go_wp2_with fail
      refine CL.mono ?_
      rintro e w3 ⟨v3, rfl, O3, K3⟩
      obtain ⟨a3, c3, rfl⟩ := own_slice O3
      have HO3 : Hid (CV w3 a3 (flat (linG (gOf xs)))) := by
        obtain ⟨x1, x2, x3, x4, -⟩ := cv_of_row O3
        injection x3 with e
        subst e
        exact x4
      have G3 := grown_trans G2 K3
      clear CL O3 K3 G2
      go_wp2_with fail
      refine (same18_any a a3 b ca c3 cb xs (linG (gOf xs)) pk w3 (H.out.keptNone G3) HLN.out HO3.out (HP.out.keptNone G3) (by omega) HS.out.1 HS.out.2.1 HS.out.2.2).mono ?_
      rintro e w4 ⟨rfl, K4⟩
      have G4 := grown_trans G3 K4
      clear G3 K4 HO3 HS
      go_wp2_with fail
      refine (awake18_any _).mono ?_
      rintro e w5 ⟨rfl, K5⟩
      go_wp2
      go_ret
      exact ⟨rfl, grown_trans G4 K5⟩
  · have h0' : (E != 0) = true := by simpa using h0
    go_wp2_with fail
    refine (awake18_any _).mono ?_
    rintro e w2 ⟨rfl, K2⟩
    go_wp2
    go_ret
    exact ⟨rfl, grown_trans G1 K2⟩

set_option maxRecDepth 100000 in
theorem lifted (os : Os) (started : os.Started) (H : Type) (enc : TypeId × Value → H) :
    ReturnsInHanded {} Try.checked os 4 .any (Rows.lineRunsSpec.pre6 enc Try.prog Try.f4 Rows.lineRunsRow.domain false) (Rows.lineRunsSpec.post enc Try.prog Try.f4 false true false false) := by
  refine returnsInHanded_of_change_sized (C := Try.checked) own started (by kernel_rfl) Try.func4
    (ChangeSpec.witness6 (enc := enc) (C := Try.checked) false ⟨#[], #[.slice none 0 0, .slice none 0 0], []⟩ 8 (by kernel_rfl) (by kernel_rfl) (by kernel_rfl) (by kernel_rfl)) ?_
  intro W base args ds gs before hval0 hW hcnd hsz0 _
  have hsz : (DataW.weightsEach Try.prog (Try.f4.params.toList ++ Rows.lineRunsSpec.plain.varTypes Try.prog) (ds ++ gs)).all (· ≤ reachBytes) = true := hsz0
  have hval : ∀ (j : Nat) t v, Try.f4.params[j]? = some t → args[j]? = some v → Value.okWide Try.prog W .any base t v := hval0
  have hW' := hW
  obtain ⟨p, q, hA0, hV, rfl, hfz, hnd⟩ := hW
  have hA : DataW.TrodAll enc Try.prog W 0 (fun _ => true) true Try.f4.params.toList args.toList ds p := hA0
  rw [Try.params4] at hA hval hsz
  obtain ⟨v0, vs0, d0, ds0, p0, q0, hargs, rfl, rfl, h0, r0⟩ := trodAll_cons hA
  obtain ⟨v1, vs1, d1, ds1, p1, q1, rfl, rfl, rfl, h1, r1⟩ := trodAll_cons r0
  obtain ⟨rfl, rfl, rfl⟩ := trodAll_nil r1
  obtain rfl : args = #[v0, v1] := by cases args; simp_all
  obtain ⟨rfl, rfl⟩ := trodVars_none hV
  obtain ⟨a0, len0, cap0, rfl⟩ := okWide_slice Try.underlying22 (hval 0 22 v0 rfl rfl)
  have k0 := h0
  have lt0 : ∀ x ∈ p0, x.block < W.heap.size := by obtain ⟨m, hm⟩ := k0; exact DataW.trod_lt m _ _ _ hm
  obtain ⟨xs0, rfl, hgc0, hnil0, hcp0, hdat0⟩ := open_blocks h0
  have hlen0 := sized_blocks hsz (j := 0) rfl rfl hdat0
  obtain ⟨a1, len1, cap1, rfl⟩ := okWide_slice Try.underlying38 (hval 1 38 v1 rfl rfl)
  have k1 := h1
  have lt1 : ∀ x ∈ p1, x.block < W.heap.size := by obtain ⟨m, hm⟩ := k1; exact DataW.trod_lt m _ _ _ hm
  obtain ⟨xs1, rfl, hcells1, hnil1, hdat1⟩ := open_bytes Try.underlying38 Try.underlying5 (by kernel_rfl) h1
  have hlen1 : xs1.length * 1 ≤ 140737488351232 := by
    rcases hdat1 with ⟨_, rfl⟩ | ⟨elems, spare, rfl, hle⟩
    · simp
    · have := sized_slice hsz (j := 1) (t := 38) (e := 5) rfl rfl Try.underlying38
      rw [bytes5] at this
      unfold reachBytes at this
      omega
  clear hA0 hval0
  refine (walk a0 cap0 xs0 a1 cap1 xs1 W hgc0 hnil0 hcp0.1 hcp0.2 hlen0.1 hlen0.2 hcells1 hnil1 (by omega)).mono fun e W' ⟨he, hg⟩ => ?_
  subst he
  have bel : Below W.heap.size W W' := (Below.refl _ _).grown hg (Nat.le_refl _) (by simp)
  exact ⟨_, rfl, _, _, _, [], _, [], hW', trodAll_mk1 (shut_bool Try.underlying4 _), (trodAll_cons_mk (Below.trod laidOut (by kernel_rfl) (of_decide_eq_true (by kernel_rfl)) k0 bel lt0) (trodAll_cons_mk (Below.trod laidOut (by kernel_rfl) (of_decide_eq_true (by kernel_rfl)) k1 bel lt1) trodAll_mk0)), rfl, bel.frame _, fun h => by cases h⟩

theorem over : Rows.LineRunsSaid :=
  OpenClaim.holds_of_wide 4 Try.f4 rfl rfl rfl rfl rfl rfl rfl ⟨rfl, rfl, rfl, rfl, rfl⟩ rfl rfl rfl rfl rfl (by kernel_rfl) Try.func4 (by kernel_rfl)
    (of_decide_eq_true (by kernel_rfl)) (by unfold Func.isWrapper; first | (rw [if_pos (by decide +kernel)]; kernel_rfl) | (rw [if_neg (by decide +kernel)]; exact ⟨rfl, rfl⟩))
    (fun os started H enc _ => lifted os started H enc)

end lineRuns

theorem lineRuns_holds : Rows.LineRunsSaid := lineRuns.over
#print axioms lineRuns_holds

end Go.Proofs.Ytelgfegkobkhiaa
