/-
  For every list of instructions and every list of bytes (their capacities at most 2^47 - 4096 bytes, as the form itself says of each argument) riddlelaw5.VmTraces returns true and leaves what was there as it was: no condition of ours.
-/
import Derived.Test.YtaldhnionkacmaaOpenI
import Derived.Test.YtaldhnionkacmaaAwake5
import Derived.Test.YtaldhnionkacmaaVmS
import Derived.Test.YtaldhnionkacmaaVmT
namespace Go.Proofs.Ytaldhnionkacmaa
open Go.ChangeShapes Go.WideShapes Go.ChangeAt Go.RowKit
open Go.ChangeMaps (open_string shut_string)
set_option maxRecDepth 100000
namespace vmTraces

set_option maxHeartbeats 2000000 in
theorem walk (a : Option Addr) (ca : Nat) (xs : List In) (b : Option Addr) (cb : Nat) (pk : List UInt8) (w : World) (ha : CV w a (flat xs)) (hc0 : a = none → ca = 0) (_hca : xs.length ≤ ca) (_hcm : ca ≤ maxLen) (hn : xs.length * 8 ≤ 140737488351232)
    (hb : Cells w b pk) (hd0 : b = none → cb = 0) (hm : pk.length ≤ 140737488351232) :
    Calls Try.prog 4 #[.slice a xs.length ca, .slice b pk.length cb] w fun e w' => e = .returned (.bool true) ∧ w.grownBy w' none := by
  have H : Hid (CV w a (flat xs)) := ha
  have HP : Hid (Cells w b pk) := hb
  clear ha hb
  obtain ⟨⟨rv, rf, rt⟩, hR⟩ : ∃ R, runV xs pk = R := ⟨_, rfl⟩
  obtain ⟨E, hE⟩ : ∃ E, runE xs pk = E := ⟨_, rfl⟩
  have HR : Hid (∀ (W : World), CV W a (flat xs) → Cells W b pk → Calls Try.prog 9 #[.slice a xs.length ca, .slice b pk.length cb] W fun e w' => RunPost W (rv, rf, rt) E e w') := fun W h h' => by
    have k := refrun_any a b ca cb xs pk W h h'
    rw [hR, hE] at k
    exact k
  have HV : Hid (∀ (a b : Option Addr) (ca cb : Nat) (W : World), CV W a (flat xs) → Cells W b pk → Calls Try.prog 16 #[.slice a xs.length ca, .slice b pk.length cb] W fun e w' => TraceEnd W rt E e w') := fun a b ca cb W h h' => by
    have k := trace_any a b ca cb xs pk W h h'
    rw [hR, hE] at k
    exact k
  have hrl : rt.length ≤ 4096 := by
    have := runV_len xs pk
    rw [hR] at this
    exact this
  clear hR hE
  have hzl : (zl rt).length = rt.length := by simp [zl]
  go_enter Try.func4, Try.ntmps4
  go_wp2_with fail
  refine (HR.out _ H.out HP.out).mono ?_
  rintro e w0 ⟨v1, rfl, O0, G0⟩
  simp only at O0 ⊢
  go_upto_region 2 with fail
  have G1 := grown_trans G0 (World.grownBy_alloc w0 (.cells #[.int .u32 (rv : Int), .int .i64 rf, .int .i64 (rt.length : Int)] 26) none)
  have O1 := owns_keptNone O0 (World.grownBy_alloc w0 (.cells #[.int .u32 (rv : Int), .int .i64 rf, .int .i64 (rt.length : Int)] 26) none)
  generalize w0.alloc (.cells #[.int .u32 (rv : Int), .int .i64 rf, .int .i64 (rt.length : Int)] 26) = w1 at *
  clear O0 G0
  obtain ⟨ao1, cap1, rfl, C1, -, -, -, B1, -⟩ := cv_of_row O1
  have hs1 := G1.size
  clear O1 HR
  go_wp2_with fail
  refine (ilend_any a ca xs _ (H.out.keptNone G1) hc0 hn).mono ?_
  rintro e w3 ⟨v3, rfl, ⟨g, cap, rfl, -, -, hg1, hg2, hown⟩, K3⟩
  have Q3 := (icv_front hown).1
  have G3 := grown_trans G1 K3
  have D3 := C1.keptNone K3
  clear G1 C1
  go_wp2_with fail
  refine (lend_any b cb pk _ (HP.out.keptNone G3) hd0 hm).mono ?_
  rintro e w4 ⟨v4, rfl, ⟨h, cap', rfl, -, -, hh1, hh2, hown'⟩, K4⟩
  have Q4 := Q3.keptNone K4
  have P4 := (cells_front hown').1
  have G4 := grown_trans G3 K4
  have D4 := D3.keptNone K4
  have own4 := owns_keptNone hown K4
  clear Q3 G3 D3 hown
  go_wp2_with fail
  refine (HV.out _ _ cap cap' _ Q4 P4).mono ?_
  rintro e w5 ⟨x, rfl, O5, K5⟩
  have G5 := grown_trans G4 K5
  have D5 := D4.keptNone K5
  have own5 := owns_keptNone own4 K5
  have own5' := owns_keptNone hown' K5
  have hs3 := K3.size
  have hs4 := K4.size
  have hs5 := K5.size
  clear Q4 P4 G4 D4 own4 hown'
  go_wp2_with fail
  refine (ikept_any g cap a ca xs _ (owns_mono own5 (Nat.zero_le _)) (H.out.keptNone G5) hn).mono ?_
  rintro e w7 ⟨rfl, K7⟩
  have G7 : w.grownBy w7 none := grown_trans_new G5 K7 (by intro k hk; obtain rfl := Option.some.inj hk; omega)
  have D7 := D5.keptUp w1.heap.size (fun ad had => (B1 ad had).2) K7 (by intro k hk; obtain rfl := Option.some.inj hk; exact hg1)
  have O7 := O5.kept K7 (by right; intro e; have := (O5.lt g e).1; omega)
  have own7' := own5'.kept K7 (by right; simp only [Value.ownBlock, ne_eq, Option.some.injEq]; omega)
  have hs7 := K7.size
  clear K7 G5 D5 O5 own5' own5
  go_wp2_with fail
  refine (kept_any h cap' b cb pk _ (owns_mono own7' (Nat.zero_le _)) (HP.out.keptNone G7) hm).mono ?_
  rintro e w8 ⟨rfl, K8⟩
  have G8 : w.grownBy w8 none := grown_trans_new G7 K8 (by intro k hk; obtain rfl := Option.some.inj hk; omega)
  have D8 := D7.keptUp w1.heap.size (fun ad had => (B1 ad had).2) K8 (by intro k hk; obtain rfl := Option.some.inj hk; omega)
  have O8 := O7.kept K8 (by right; intro e; have := (O7.lt h e).1; omega)
  have hs8 := K8.size
  clear K8 G7 D7 O7 own7'
  go_wp2_with fail
  refine (icopy_any a ca xs _ (H.out.keptNone G8) hc0 (by omega)).mono ?_
  rintro e w9 ⟨v9, rfl, O9, K9⟩
  obtain ⟨ao9, cap9, rfl, Q9, -⟩ := cv_of_row O9
  have G9 := grown_trans G8 K9
  have D9 := D8.keptNone K9
  have O9x := owns_keptNone O8 K9
  have hs9 := K9.size
  clear O9 K9 G8 D8
  go_wp2_with fail
  refine (copy_any b cb pk _ (HP.out.keptNone G9) hd0 (by omega)).mono ?_
  rintro e w10 ⟨v10, rfl, O10, K10⟩
  obtain ⟨ao10, cap10, rfl, P10, -⟩ := O10.rd
  have G10 := grown_trans G9 K10
  have D10 := D9.keptNone K10
  have O10x := owns_keptNone O9x K10
  have Q10 := Q9.keptNone K10
  have hs10 := K10.size
  clear O10 K10 G9 D9 O9x Q9
  go_wp2_with fail
  refine (HV.out _ _ cap9 cap10 _ Q10 P10).mono ?_
  rintro e w11 ⟨y, rfl, O11, K11⟩
  obtain ⟨ao11, cap11, rfl, Y11, -, -, -, B11, -⟩ := cv_of_row O11
  have G11 := grown_trans G10 K11
  have D11 := D10.keptNone K11
  have O11x := owns_keptNone O10x K11
  have hs11 := K11.size
  have E11 : ∃ aox capx, x = .slice aox rt.length capx ∧ CV w11 aox ((zl rt).map iv) := by
    obtain ⟨aox, capx, h, c, -⟩ := cv_of_row O11x
    exact ⟨aox, capx, h, c⟩
  obtain ⟨aox, capx, hx, X11⟩ := E11
  subst hx
  clear O11 K11 G10 D10 O10x Q10 P10 HV
  have HO8 := O8.lt
  clear O8
  rw [← hzl] at O11x
  have HS : Hid (∀ (a b : Option Addr) (ca cb : Nat) (W : World), CV W a ((zl rt).map iv) → CV W b ((zl rt).map iv) → Calls Try.prog 19 #[.slice a rt.length ca, .slice b rt.length cb] W fun e w' => e = .returned (.bool true) ∧ ∃ n, w' = W.drewN n) := fun a b ca cb W h h' => by
    have k := zsame_any a b ca cb (zl rt) W h h' (by omega)
    rw [hzl] at k
    exact k
  go_wp2_with fail
  refine (HS.out aox ao1 capx cap1 _ X11 D11).mono ?_
  rintro e w12 ⟨rfl, n12, rfl⟩
  clear X11
  go_wp2_with fail
  have HSP := zspoil_own (w11.drewN n12) (xs := zl rt) (base := w4.heap.size) O11x (by omega)
  rw [hzl] at HSP
  refine HSP.mono ?_
  rintro e w13 ⟨rfl, K13⟩
  have K14 : w11.grownBy w13 _ := grown_trans (grown_drewN w11 n12 _) K13
  have D13 := D11.keptUp w1.heap.size (fun ad had => (B1 ad had).2) K14 (fun k hk => by have := (HO8 k hk).1; omega)
  have Y13 := Y11.keptDown w10.heap.size (fun ad had => (B11 ad had).1) K14 (fun k hk => by have := (HO8 k hk).2; omega)
  have G13 : w.grownBy w13 none := grown_trans_new G11 K14 (fun k hk => by have := (HO8 k hk).1; omega)
  clear K13 K14 D11 Y11 G11 HSP O11x
  go_wp2_with fail
  refine (HS.out ao11 ao1 cap11 cap1 _ Y13 D13).mono ?_
  rintro e w15 ⟨rfl, n15, rfl⟩
  have G15 := grown_trans G13 (grown_drewN w13 n15 none)
  clear Y13 D13 G13
  go_wp2_with fail
  refine (awake5_any _).mono ?_
  rintro e w16 ⟨rfl, K16⟩
  have G16 := grown_trans G15 K16
  clear K16 G15
  go_wp2
  go_ret
  exact ⟨rfl, G16⟩

set_option maxRecDepth 100000 in
theorem lifted (os : Os) (started : os.Started) (H : Type) (enc : TypeId × Value → H) :
    ReturnsInHanded {} Try.checked os 4 .any (Rows.vmTracesSpec.pre6 enc Try.prog Try.f4 Rows.vmTracesRow.domain false) (Rows.vmTracesSpec.post enc Try.prog Try.f4 false true false false) := by
  refine returnsInHanded_of_change_sized (C := Try.checked) own started (by kernel_rfl) Try.func4
    (ChangeSpec.witness6 (enc := enc) (C := Try.checked) false ⟨#[], #[.slice none 0 0, .slice none 0 0], []⟩ 8 (by kernel_rfl) (by kernel_rfl) (by kernel_rfl) (by kernel_rfl)) ?_
  intro W base args ds gs before hval0 hW hcnd hsz0 _
  have hsz : (DataW.weightsEach Try.prog (Try.f4.params.toList ++ Rows.vmTracesSpec.plain.varTypes Try.prog) (ds ++ gs)).all (· ≤ reachBytes) = true := hsz0
  have hval : ∀ (j : Nat) t v, Try.f4.params[j]? = some t → args[j]? = some v → Value.okWide Try.prog W .any base t v := hval0
  have hW' := hW
  obtain ⟨p, q, hA0, hV, rfl, hfz, hnd⟩ := hW
  have hA : DataW.TrodAll enc Try.prog W 0 (fun _ => true) true Try.f4.params.toList args.toList ds p := hA0
  rw [Try.params4] at hA hval hsz
  obtain ⟨v0, vs0, d0, ds0, p0, q0, hargs, rfl, rfl, h0, r0⟩ := trodAll_cons hA
  obtain ⟨v1, vs1, d1, ds1, p1, q1, rfl, rfl, rfl, h1, r1⟩ := trodAll_cons r0
  obtain ⟨rfl, rfl, rfl⟩ := trodAll_nil r1
  obtain rfl : args = #[v0, v1] := by cases args; simp_all
  obtain ⟨rfl, rfl⟩ := trodVars_none hV
  obtain ⟨a0, len0, cap0, rfl⟩ := okWide_slice Try.underlying22 (hval 0 22 v0 rfl rfl)
  have k0 := h0
  have lt0 : ∀ x ∈ p0, x.block < W.heap.size := by obtain ⟨m, hm⟩ := k0; exact DataW.trod_lt m _ _ _ hm
  obtain ⟨xs0, rfl, hcells0, hnil0, hcp0, hdat0⟩ := open_insns h0
  obtain ⟨a1, len1, cap1, rfl⟩ := okWide_slice Try.underlying23 (hval 1 23 v1 rfl rfl)
  have k1 := h1
  have lt1 : ∀ x ∈ p1, x.block < W.heap.size := by obtain ⟨m, hm⟩ := k1; exact DataW.trod_lt m _ _ _ hm
  obtain ⟨xs1, rfl, hcells1, hnil1, hdat1⟩ := open_bytes Try.underlying23 Try.underlying5 (by kernel_rfl) h1
  have hlen0 : xs0.length * 8 ≤ 140737488351232 := by
    rcases hdat0 with ⟨_, rfl⟩ | ⟨elems, spare, rfl, hle⟩
    · simp
    · have := sized_slice hsz (j := 0) (t := 22) (e := 47) rfl rfl Try.underlying22
      rw [bytes47] at this
      unfold reachBytes at this
      omega
  have hlen1 : xs1.length * 1 ≤ 140737488351232 := by
    rcases hdat1 with ⟨_, rfl⟩ | ⟨elems, spare, rfl, hle⟩
    · simp
    · have := sized_slice hsz (j := 1) (t := 23) (e := 5) rfl rfl Try.underlying23
      rw [bytes5] at this
      unfold reachBytes at this
      omega
  clear hA0 hval0
  refine (walk a0 cap0 xs0 a1 cap1 xs1 W hcells0 hnil0 hcp0.1 hcp0.2 (by omega) hcells1 hnil1 (by omega)).mono fun e W' ⟨he, hg⟩ => ?_
  subst he
  have bel : Below W.heap.size W W' := (Below.refl _ _).grown hg (Nat.le_refl _) (by simp)
  exact ⟨_, rfl, _, _, _, [], _, [], hW', trodAll_mk1 (shut_bool Try.underlying4 _), (trodAll_cons_mk (Below.trod laidOut (by kernel_rfl) (of_decide_eq_true (by kernel_rfl)) k0 bel lt0) (trodAll_cons_mk (Below.trod laidOut (by kernel_rfl) (of_decide_eq_true (by kernel_rfl)) k1 bel lt1) trodAll_mk0)), rfl, bel.frame _, fun h => by cases h⟩

theorem over : Rows.VmTracesSaid :=
  OpenClaim.holds_of_wide 4 Try.f4 rfl rfl rfl rfl rfl rfl rfl ⟨rfl, rfl, rfl, rfl, rfl⟩ rfl rfl rfl rfl rfl (by kernel_rfl) Try.func4 (by kernel_rfl)
    (of_decide_eq_true (by kernel_rfl)) (by unfold Func.isWrapper; first | (rw [if_pos (by decide +kernel)]; kernel_rfl) | (rw [if_neg (by decide +kernel)]; exact ⟨rfl, rfl⟩))
    (fun os started H enc _ => lifted os started H enc)

end vmTraces

theorem vmTraces_holds : Rows.VmTracesSaid := vmTraces.over
#print axioms vmTraces_holds
end Go.Proofs.Ytaldhnionkacmaa
