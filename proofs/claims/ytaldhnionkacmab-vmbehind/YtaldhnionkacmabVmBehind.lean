/-
  For every list of instructions and every two lists of bytes (their capacities at most 2^47 - 4096 bytes, as the form itself says of each argument) riddlelaw5.VmBehind returns true and leaves what was there as it was: no condition of ours.
-/
import Derived.Test.YtaldhnionkacmabOpenI
import Derived.Test.YtaldhnionkacmabAwake5
import Derived.Test.YtaldhnionkacmabVmBh
import Derived.Test.YtaldhnionkacmabJoins2
namespace Go.Proofs.Ytaldhnionkacmab
open Go.ChangeShapes Go.WideShapes Go.ChangeAt Go.RowKit
open Go.ChangeMaps (open_string shut_string)
set_option maxRecDepth 100000
namespace vmBehind

set_option maxHeartbeats 2000000 in
theorem walk (a : Option Addr) (ca : Nat) (xs : List In) (b : Option Addr) (cb : Nat) (pk : List UInt8) (c : Option Addr) (cc : Nat) (mo : List UInt8) (w : World) (ha : CV w a (flat xs)) (hc0 : a = none → ca = 0) (_hca : xs.length ≤ ca) (_hcm : ca ≤ maxLen) (hn : xs.length * 8 ≤ 140737488351232)
    (hb : Cells w b pk) (hd0 : b = none → cb = 0) (hm : pk.length ≤ 140737488351232) (hc : Cells w c mo) (he0 : c = none → cc = 0) (hm2 : mo.length ≤ 140737488351232) :
    Calls Try.prog 4 #[.slice a xs.length ca, .slice b pk.length cb, .slice c mo.length cc] w fun e w' => e = .returned (.bool true) ∧ w.grownBy w' none := by
  have H : Hid (CV w a (flat xs)) := ha
  have HP : Hid (Cells w b pk) := hb
  have HM : Hid (Cells w c mo) := hc
  clear ha hb hc
  obtain ⟨⟨rv, rf, rt⟩, hR⟩ : ∃ R, runV xs pk = R := ⟨_, rfl⟩
  obtain ⟨E, hE⟩ : ∃ E, runE xs pk = E := ⟨_, rfl⟩
  obtain ⟨q, hq⟩ : ∃ q, asksL xs = q := ⟨_, rfl⟩
  have HV : Hid (∀ (a b : Option Addr) (ca cb : Nat) (W : World), CV W a (flat xs) → Cells W b pk → Calls Try.prog 5 #[.slice a xs.length ca, .slice b pk.length cb] W fun e w' => RunEnd W rv rf (rt.length : Int) E e w') := fun a b ca cb W h h' => by
    have k := run_any a b ca cb xs pk W h h'
    rw [hR, hE] at k
    exact k
  have HA : Hid (∀ (W : World), CV W a (flat xs) → Calls Try.prog 9 #[.slice a xs.length ca] W fun e w' => e = .returned (.bool q) ∧ W = w') := fun W h => by
    have k := asks_any a ca xs W h (by omega)
    rw [hq] at k
    exact k
  have HF : Hid (E = 0 → rf = 0 → q = false → pk.length + mo.length ≤ 65536 → ∀ (a b : Option Addr) (ca cb : Nat) (W : World), CV W a (flat xs) → Cells W b (pk ++ mo) → Calls Try.prog 5 #[.slice a xs.length ca, .slice b (pk.length + mo.length) cb] W fun e w' => RunEnd W rv 0 (rt.length : Int) 0 e w') := fun h1 h2 h3 h4 a b ca cb W h h' => by
    obtain ⟨k1, k2⟩ := runV_more (more := mo) (by rw [hq]; exact h3) (by rw [hE]; exact h1) (by rw [hR]; exact h2) h4
    have k := run_any a b ca cb xs (pk ++ mo) W h h'
    rw [k1, k2, hR, List.length_append] at k
    simp only [h2] at k
    exact k
  clear hR hE hq
  go_enter Try.func4, Try.ntmps4
  go_wp2_with fail
  refine (icopy_any a ca xs _ H.out hc0 (by omega)).mono ?_
  rintro e w1 ⟨v1, rfl, O1, G1⟩
  obtain ⟨ao1, cap1, rfl, Q1, -⟩ := cv_of_row O1
  clear O1
  go_wp2_with fail
  refine (copy_any b cb pk _ (HP.out.keptNone G1) hd0 (by omega)).mono ?_
  rintro e w2 ⟨v2, rfl, O2, K2⟩
  obtain ⟨ao2, cap2, rfl, P2, -⟩ := O2.rd
  have G2 := grown_trans G1 K2
  have Q2 := Q1.keptNone K2
  clear O2 K2 G1 Q1
  go_wp2_with fail
  refine (HV.out _ _ cap1 cap2 _ Q2 P2).mono ?_
  rintro e w3 ⟨rfl, K3⟩
  have G3 := grown_trans G2 K3
  clear K3 G2 Q2 P2 HV
  go_upto_region 2 with fail
  have G4 := grown_trans G3 (World.grownBy_alloc w3 (.cells #[.int .u32 (rv : Int), .int .i64 rf, .int .i64 (rt.length : Int)] 30) none)
  have V4 := v3_alloc w3 30 rv rf rt.length
  generalize w3.alloc (.cells #[.int .u32 (rv : Int), .int .i64 rf, .int .i64 (rt.length : Int)] 30) = w4 at *
  generalize w3.heap.size = B4 at *
  clear G3
  have V4' := V4
  obtain ⟨y0, y1, y2⟩ := V4'
  have HCX := H.out.keptNone G4
  by_cases hE : E = 0
  · subst hE
    by_cases hf : rf = 0
    · subst hf
      cases q with
      | true =>
        clear HF
        go_wp2_with (go_at_call 9; refine (HA.out _ (by exact HCX)).mono ?_; rintro e w' ⟨rfl, rfl⟩)
        refine (awake5_any _).mono ?_
        rintro e w5 ⟨rfl, K5⟩
        have G5 := grown_trans G4 K5
        clear G4 K5
        go_wp2
        go_ret
        exact ⟨rfl, G5⟩
      | false =>
        by_cases hl : 65536 < pk.length + mo.length
        · have hl' : (65536 : Int) < (pk.length : Int) + (mo.length : Int) := by omega
          clear HF
          go_wp2_with (go_at_call 9; refine (HA.out _ (by exact HCX)).mono ?_; rintro e w' ⟨rfl, rfl⟩)
          refine (awake5_any _).mono ?_
          rintro e w5 ⟨rfl, K5⟩
          have G5 := grown_trans G4 K5
          clear G4 K5
          go_wp2
          go_ret
          exact ⟨rfl, G5⟩
        · have hl' : ¬ ((65536 : Int) < (pk.length : Int) + (mo.length : Int)) := by omega
          have HRM := HF.out rfl rfl rfl (by omega)
          have HRMM : Hid (∀ (a b : Option Addr) (ca cb : Nat) (W : World), CV W a (flat xs) → Cells W b (pk ++ mo) → Calls Try.prog 5 #[.slice a xs.length ca, .slice b (pk.length + mo.length) cb] W fun e w' => RunEnd W rv 0 (rt.length : Int) 0 e w') := HRM
          clear HF HRM
          go_wp2_with (go_at_call 9; refine (HA.out _ (by exact HCX)).mono ?_; rintro e w' ⟨rfl, rfl⟩)
          refine (icopy_any a ca xs _ HCX hc0 (by omega)).mono ?_
          rintro e w5 ⟨v5, rfl, O5, K5⟩
          obtain ⟨ao5, cap5, rfl, Q5, -⟩ := cv_of_row O5
          have G5 := grown_trans G4 K5
          have V5 := V4.keptNone K5
          clear O5 K5 G4 V4 y0 y1 y2 HCX HA
          go_wp2_with fail
          refine (jn2 w5 b c cb cc pk mo (HP.out.keptNone G5) hd0 (HM.out.keptNone G5) he0 (by omega)).mono ?_
          rintro e w6 ⟨v6, rfl, O6, K6⟩
          obtain ⟨ao6, cap6, rfl, P6, -⟩ := O6.rd
          have G6 := grown_trans G5 K6
          have V6 := V5.keptNone K6
          have Q6 := Q5.keptNone K6
          clear O6 K6 G5 V5 Q5
          go_wp2_with fail
          refine (HRMM.out _ _ cap5 cap6 _ Q6 P6).mono ?_
          rintro e w7 ⟨rfl, K7⟩
          have G7 := grown_trans G6 K7
          have V7 := V6.keptNone K7
          clear K7 G6 V6 Q6 P6 HRMM
          go_upto_region 5 with fail
          have K8 := World.grownBy_alloc w7 (.cells #[.int .u32 (rv : Int), .int .i64 0, .int .i64 (rt.length : Int)] 30) none
          have G8 := grown_trans G7 K8
          obtain ⟨y0, y1, y2⟩ := V7.keptNone K8
          obtain ⟨z0, z1, z2⟩ := v3_alloc w7 30 rv 0 rt.length
          generalize w7.alloc (.cells #[.int .u32 (rv : Int), .int .i64 0, .int .i64 (rt.length : Int)] 30) = w8 at *
          generalize w7.heap.size = B8 at *
          clear K8 G7 V7
          go_wp2_with fail
          refine (awake5_any _).mono ?_
          rintro e w9 ⟨rfl, K9⟩
          have G9 := grown_trans G8 K9
          clear G8 K9
          go_wp2
          go_ret
          exact ⟨rfl, G9⟩
    · have hfb : (rf != 0) = true := by rw [bne_iff_ne]; exact hf
      clear HF hf HA
      go_wp2_with fail
      refine (awake5_any _).mono ?_
      rintro e w5 ⟨rfl, K5⟩
      have G5 := grown_trans G4 K5
      clear G4 K5
      go_wp2
      go_ret
      exact ⟨rfl, G5⟩
  · have hEb : (E != 0) = true := by rw [bne_iff_ne]; exact hE
    clear HF hE HA
    go_wp2_with fail
    refine (awake5_any _).mono ?_
    rintro e w5 ⟨rfl, K5⟩
    have G5 := grown_trans G4 K5
    clear G4 K5
    go_wp2
    go_ret
    exact ⟨rfl, G5⟩

set_option maxRecDepth 100000 in
theorem lifted (os : Os) (started : os.Started) (H : Type) (enc : TypeId × Value → H) :
    ReturnsInHanded {} Try.checked os 4 .any (Rows.vmBehindSpec.pre6 enc Try.prog Try.f4 Rows.vmBehindRow.domain false) (Rows.vmBehindSpec.post enc Try.prog Try.f4 false true false false) := by
  refine returnsInHanded_of_change_sized (C := Try.checked) own started (by kernel_rfl) Try.func4
    (ChangeSpec.witness6 (enc := enc) (C := Try.checked) false ⟨#[], #[.slice none 0 0, .slice none 0 0, .slice none 0 0], []⟩ 8 (by kernel_rfl) (by kernel_rfl) (by kernel_rfl) (by kernel_rfl)) ?_
  intro W base args ds gs before hval0 hW hcnd hsz0 _
  have hsz : (DataW.weightsEach Try.prog (Try.f4.params.toList ++ Rows.vmBehindSpec.plain.varTypes Try.prog) (ds ++ gs)).all (· ≤ reachBytes) = true := hsz0
  have hval : ∀ (j : Nat) t v, Try.f4.params[j]? = some t → args[j]? = some v → Value.okWide Try.prog W .any base t v := hval0
  have hW' := hW
  obtain ⟨p, q, hA0, hV, rfl, hfz, hnd⟩ := hW
  have hA : DataW.TrodAll enc Try.prog W 0 (fun _ => true) true Try.f4.params.toList args.toList ds p := hA0
  rw [Try.params4] at hA hval hsz
  obtain ⟨v0, vs0, d0, ds0, p0, q0, hargs, rfl, rfl, h0, r0⟩ := trodAll_cons hA
  obtain ⟨v1, vs1, d1, ds1, p1, q1, rfl, rfl, rfl, h1, r1⟩ := trodAll_cons r0
  obtain ⟨v2, vs2, d2, ds2, p2, q2, rfl, rfl, rfl, h2, r2⟩ := trodAll_cons r1
  obtain ⟨rfl, rfl, rfl⟩ := trodAll_nil r2
  obtain rfl : args = #[v0, v1, v2] := by cases args; simp_all
  obtain ⟨rfl, rfl⟩ := trodVars_none hV
  obtain ⟨a0, len0, cap0, rfl⟩ := okWide_slice Try.underlying28 (hval 0 28 v0 rfl rfl)
  have k0 := h0
  have lt0 : ∀ x ∈ p0, x.block < W.heap.size := by obtain ⟨m, hm⟩ := k0; exact DataW.trod_lt m _ _ _ hm
  obtain ⟨xs0, rfl, hcells0, hnil0, hcp0, hdat0⟩ := open_insns h0
  obtain ⟨a1, len1, cap1, rfl⟩ := okWide_slice Try.underlying36 (hval 1 36 v1 rfl rfl)
  have k1 := h1
  have lt1 : ∀ x ∈ p1, x.block < W.heap.size := by obtain ⟨m, hm⟩ := k1; exact DataW.trod_lt m _ _ _ hm
  obtain ⟨xs1, rfl, hcells1, hnil1, hdat1⟩ := open_bytes Try.underlying36 Try.underlying5 (by kernel_rfl) h1
  obtain ⟨a2, len2, cap2, rfl⟩ := okWide_slice Try.underlying36 (hval 2 36 v2 rfl rfl)
  have k2 := h2
  have lt2 : ∀ x ∈ p2, x.block < W.heap.size := by obtain ⟨m, hm⟩ := k2; exact DataW.trod_lt m _ _ _ hm
  obtain ⟨xs2, rfl, hcells2, hnil2, hdat2⟩ := open_bytes Try.underlying36 Try.underlying5 (by kernel_rfl) h2
  have hlen0 : xs0.length * 8 ≤ 140737488351232 := by
    rcases hdat0 with ⟨_, rfl⟩ | ⟨elems, spare, rfl, hle⟩
    · simp
    · have := sized_slice hsz (j := 0) (t := 28) (e := 27) rfl rfl Try.underlying28
      rw [bytes27] at this
      unfold reachBytes at this
      omega
  have hlen1 : xs1.length * 1 ≤ 140737488351232 := by
    rcases hdat1 with ⟨_, rfl⟩ | ⟨elems, spare, rfl, hle⟩
    · simp
    · have := sized_slice hsz (j := 1) (t := 36) (e := 5) rfl rfl Try.underlying36
      rw [bytes5] at this
      unfold reachBytes at this
      omega
  have hlen2 : xs2.length * 1 ≤ 140737488351232 := by
    rcases hdat2 with ⟨_, rfl⟩ | ⟨elems, spare, rfl, hle⟩
    · simp
    · have := sized_slice hsz (j := 2) (t := 36) (e := 5) rfl rfl Try.underlying36
      rw [bytes5] at this
      unfold reachBytes at this
      omega
  clear hA0 hval0
  refine (walk a0 cap0 xs0 a1 cap1 xs1 a2 cap2 xs2 W hcells0 hnil0 hcp0.1 hcp0.2 (by omega) hcells1 hnil1 (by omega) hcells2 hnil2 (by omega)).mono fun e W' ⟨he, hg⟩ => ?_
  subst he
  have bel : Below W.heap.size W W' := (Below.refl _ _).grown hg (Nat.le_refl _) (by simp)
  exact ⟨_, rfl, _, _, _, [], _, [], hW', trodAll_mk1 (shut_bool Try.underlying4 _), (trodAll_cons_mk (Below.trod laidOut (by kernel_rfl) (of_decide_eq_true (by kernel_rfl)) k0 bel lt0) (trodAll_cons_mk (Below.trod laidOut (by kernel_rfl) (of_decide_eq_true (by kernel_rfl)) k1 bel lt1) (trodAll_cons_mk (Below.trod laidOut (by kernel_rfl) (of_decide_eq_true (by kernel_rfl)) k2 bel lt2) trodAll_mk0))), rfl, bel.frame _, fun h => by cases h⟩

theorem over : Rows.VmBehindSaid :=
  OpenClaim.holds_of_wide 4 Try.f4 rfl rfl rfl rfl rfl rfl rfl ⟨rfl, rfl, rfl, rfl, rfl⟩ rfl rfl rfl rfl rfl (by kernel_rfl) Try.func4 (by kernel_rfl)
    (of_decide_eq_true (by kernel_rfl)) (by unfold Func.isWrapper; first | (rw [if_pos (by decide +kernel)]; kernel_rfl) | (rw [if_neg (by decide +kernel)]; exact ⟨rfl, rfl⟩))
    (fun os started H enc _ => lifted os started H enc)

end vmBehind

theorem vmBehind_holds : Rows.VmBehindSaid := vmBehind.over
#print axioms vmBehind_holds
end Go.Proofs.Ytaldhnionkacmab
