/-
  For every list of instructions and every list of bytes (their capacities at most 2^47 - 4096 bytes, as the form itself says of each argument) riddlelaw5.VmRuns returns true and leaves what was there as it was: no condition of ours.
-/
import Derived.Test.YtaldhnionkacmaaOpenI
import Derived.Test.YtaldhnionkacmaaAwake5
import Derived.Test.YtaldhnionkacmaaVmS
namespace Go.Proofs.Ytaldhnionkacmaa
open Go.ChangeShapes Go.WideShapes Go.ChangeAt Go.RowKit
open Go.ChangeMaps (open_string shut_string)
set_option maxRecDepth 100000
namespace vmRuns

set_option maxHeartbeats 2000000 in
theorem walk (a : Option Addr) (ca : Nat) (xs : List In) (b : Option Addr) (cb : Nat) (pk : List UInt8) (w : World) (ha : CV w a (flat xs)) (hc0 : a = none → ca = 0) (_hca : xs.length ≤ ca) (_hcm : ca ≤ maxLen) (hn : xs.length * 8 ≤ 140737488351232)
    (hb : Cells w b pk) (hd0 : b = none → cb = 0) (hm : pk.length ≤ 140737488351232) :
    Calls Try.prog 3 #[.slice a xs.length ca, .slice b pk.length cb] w fun e w' => e = .returned (.bool true) ∧ w.grownBy w' none := by
  have H : Hid (CV w a (flat xs)) := ha
  have HP : Hid (Cells w b pk) := hb
  clear ha hb
  obtain ⟨⟨rv, rf, rt⟩, hR⟩ : ∃ R, runV xs pk = R := ⟨_, rfl⟩
  obtain ⟨E, hE⟩ : ∃ E, runE xs pk = E := ⟨_, rfl⟩
  have HR : Hid (∀ (W : World), CV W a (flat xs) → Cells W b pk → Calls Try.prog 9 #[.slice a xs.length ca, .slice b pk.length cb] W fun e w' => RunPost W (rv, rf, rt) E e w') := fun W h h' => by
    have k := refrun_any a b ca cb xs pk W h h'
    rw [hR, hE] at k
    exact k
  have HV : Hid (∀ (a b : Option Addr) (ca cb : Nat) (W : World), CV W a (flat xs) → Cells W b pk → Calls Try.prog 12 #[.slice a xs.length ca, .slice b pk.length cb] W fun e w' => RunEnd W rv rf (rt.length : Int) E e w') := fun a b ca cb W h h' => by
    have k := run_any a b ca cb xs pk W h h'
    rw [hR, hE] at k
    exact k
  clear hR hE
  go_enter Try.func3, Try.ntmps3
  go_wp2_with fail
  refine (HR.out _ H.out HP.out).mono ?_
  rintro e w1 ⟨v1, rfl, -, G1⟩
  simp only
  go_upto_region 2 with fail
  have G2 := grown_trans G1 (World.grownBy_alloc w1 (.cells #[.int .u32 (rv : Int), .int .i64 rf, .int .i64 (rt.length : Int)] 26) none)
  have V2 := v3_alloc w1 26 rv rf rt.length
  have hs1 := G1.size
  have hs2 : w1.heap.size < (w1.alloc (.cells #[.int .u32 (rv : Int), .int .i64 rf, .int .i64 (rt.length : Int)] 26)).heap.size := by simp
  generalize w1.alloc (.cells #[.int .u32 (rv : Int), .int .i64 rf, .int .i64 (rt.length : Int)] 26) = w2 at *
  generalize w1.heap.size = B1 at *
  clear G1 HR
  go_wp2_with fail
  refine (ilend_any a ca xs _ (H.out.keptNone G2) hc0 hn).mono ?_
  rintro e w3 ⟨v3, rfl, ⟨g, cap, rfl, -, -, hg1, hg2, hown⟩, K3⟩
  have C3 := (icv_front hown).1
  have G3 := grown_trans G2 K3
  have V3 := V2.keptNone K3
  clear V2 G2
  go_wp2_with fail
  refine (lend_any b cb pk _ (HP.out.keptNone G3) hd0 hm).mono ?_
  rintro e w4 ⟨v4, rfl, ⟨h, cap', rfl, -, -, hh1, hh2, hown'⟩, K4⟩
  have C4 := C3.keptNone K4
  have D4 := (cells_front hown').1
  have G4 := grown_trans G3 K4
  have V4 := V3.keptNone K4
  have own4 := owns_keptNone hown K4
  clear C3 V3 G3 hown
  go_wp2_with fail
  refine (HV.out _ _ cap cap' _ C4 D4).mono ?_
  rintro e w5 ⟨rfl, K5⟩
  have G5 := grown_trans G4 K5
  have V5 := V4.keptNone K5
  have own5 := owns_keptNone own4 K5
  have own5' := owns_keptNone hown' K5
  clear C4 D4 G4 V4 own4 hown' HV
  go_upto_region 4 with fail
  have K6 := World.grownBy_alloc w5 (.cells #[.int .u32 (rv : Int), .int .i64 rf, .int .i64 (rt.length : Int)] 26) none
  have G6 := grown_trans G5 K6
  have V6 := V5.keptNone K6
  have own6 := owns_keptNone own5 K6
  have own6' := owns_keptNone own5' K6
  have U6 := v3_alloc w5 26 rv rf rt.length
  have hs3 : h < w5.heap.size := by have := K5.size; omega
  have hs4 : g < w5.heap.size := by have := K5.size; have := K4.size; omega
  have hs5 := K3.size
  have hs6 := K4.size
  have hs7 := K5.size
  generalize w5.alloc (.cells #[.int .u32 (rv : Int), .int .i64 rf, .int .i64 (rt.length : Int)] 26) = w6 at *
  generalize w5.heap.size = B5 at *
  clear K3 K4 K5 K6 G5 V5 own5 own5'
  go_wp2_with fail
  refine (ikept_any g cap a ca xs _ (owns_mono own6 (Nat.zero_le _)) (H.out.keptNone G6) hn).mono ?_
  rintro e w7 ⟨rfl, K7⟩
  have G7 : w.grownBy w7 none := grown_trans_new G6 K7 (by intro k hk; obtain rfl := Option.some.inj hk; omega)
  have V7 := V6.kept K7 (by simp only [ne_eq, Option.some.injEq]; omega)
  have U7 := U6.kept K7 (by simp only [ne_eq, Option.some.injEq]; omega)
  have own7' := own6'.kept K7 (by right; simp only [Value.ownBlock, ne_eq, Option.some.injEq]; omega)
  clear K7 G6 V6 U6 own6' own6
  go_wp2_with fail
  refine (kept_any h cap' b cb pk _ (owns_mono own7' (Nat.zero_le _)) (HP.out.keptNone G7) hm).mono ?_
  rintro e w8 ⟨rfl, K8⟩
  have G8 : w.grownBy w8 none := grown_trans_new G7 K8 (by intro k hk; obtain rfl := Option.some.inj hk; omega)
  obtain ⟨y0, y1, y2⟩ := V7.kept K8 (by simp only [ne_eq, Option.some.injEq]; omega)
  obtain ⟨z0, z1, z2⟩ := U7.kept K8 (by simp only [ne_eq, Option.some.injEq]; omega)
  clear K8 G7 V7 U7 own7'
  go_wp2_with fail
  refine (awake5_any _).mono ?_
  rintro e w9 ⟨rfl, K9⟩
  have G9 := grown_trans G8 K9
  clear G8 K9
  go_wp2
  go_ret
  exact ⟨rfl, G9⟩

set_option maxRecDepth 100000 in
theorem lifted (os : Os) (started : os.Started) (H : Type) (enc : TypeId × Value → H) :
    ReturnsInHanded {} Try.checked os 3 .any (Rows.vmRunsSpec.pre6 enc Try.prog Try.f3 Rows.vmRunsRow.domain false) (Rows.vmRunsSpec.post enc Try.prog Try.f3 false true false false) := by
  refine returnsInHanded_of_change_sized (C := Try.checked) own started (by kernel_rfl) Try.func3
    (ChangeSpec.witness6 (enc := enc) (C := Try.checked) false ⟨#[], #[.slice none 0 0, .slice none 0 0], []⟩ 8 (by kernel_rfl) (by kernel_rfl) (by kernel_rfl) (by kernel_rfl)) ?_
  intro W base args ds gs before hval0 hW hcnd hsz0 _
  have hsz : (DataW.weightsEach Try.prog (Try.f3.params.toList ++ Rows.vmRunsSpec.plain.varTypes Try.prog) (ds ++ gs)).all (· ≤ reachBytes) = true := hsz0
  have hval : ∀ (j : Nat) t v, Try.f3.params[j]? = some t → args[j]? = some v → Value.okWide Try.prog W .any base t v := hval0
  have hW' := hW
  obtain ⟨p, q, hA0, hV, rfl, hfz, hnd⟩ := hW
  have hA : DataW.TrodAll enc Try.prog W 0 (fun _ => true) true Try.f3.params.toList args.toList ds p := hA0
  rw [Try.params3] at hA hval hsz
  obtain ⟨v0, vs0, d0, ds0, p0, q0, hargs, rfl, rfl, h0, r0⟩ := trodAll_cons hA
  obtain ⟨v1, vs1, d1, ds1, p1, q1, rfl, rfl, rfl, h1, r1⟩ := trodAll_cons r0
  obtain ⟨rfl, rfl, rfl⟩ := trodAll_nil r1
  obtain rfl : args = #[v0, v1] := by cases args; simp_all
  obtain ⟨rfl, rfl⟩ := trodVars_none hV
  obtain ⟨a0, len0, cap0, rfl⟩ := okWide_slice Try.underlying22 (hval 0 22 v0 rfl rfl)
  have k0 := h0
  have lt0 : ∀ x ∈ p0, x.block < W.heap.size := by obtain ⟨m, hm⟩ := k0; exact DataW.trod_lt m _ _ _ hm
  obtain ⟨xs0, rfl, hcells0, hnil0, hcp0, hdat0⟩ := open_insns h0
  obtain ⟨a1, len1, cap1, rfl⟩ := okWide_slice Try.underlying23 (hval 1 23 v1 rfl rfl)
  have k1 := h1
  have lt1 : ∀ x ∈ p1, x.block < W.heap.size := by obtain ⟨m, hm⟩ := k1; exact DataW.trod_lt m _ _ _ hm
  obtain ⟨xs1, rfl, hcells1, hnil1, hdat1⟩ := open_bytes Try.underlying23 Try.underlying5 (by kernel_rfl) h1
  have hlen0 : xs0.length * 8 ≤ 140737488351232 := by
    rcases hdat0 with ⟨_, rfl⟩ | ⟨elems, spare, rfl, hle⟩
    · simp
    · have := sized_slice hsz (j := 0) (t := 22) (e := 47) rfl rfl Try.underlying22
      rw [bytes47] at this
      unfold reachBytes at this
      omega
  have hlen1 : xs1.length * 1 ≤ 140737488351232 := by
    rcases hdat1 with ⟨_, rfl⟩ | ⟨elems, spare, rfl, hle⟩
    · simp
    · have := sized_slice hsz (j := 1) (t := 23) (e := 5) rfl rfl Try.underlying23
      rw [bytes5] at this
      unfold reachBytes at this
      omega
  clear hA0 hval0
  refine (walk a0 cap0 xs0 a1 cap1 xs1 W hcells0 hnil0 hcp0.1 hcp0.2 (by omega) hcells1 hnil1 (by omega)).mono fun e W' ⟨he, hg⟩ => ?_
  subst he
  have bel : Below W.heap.size W W' := (Below.refl _ _).grown hg (Nat.le_refl _) (by simp)
  exact ⟨_, rfl, _, _, _, [], _, [], hW', trodAll_mk1 (shut_bool Try.underlying4 _), (trodAll_cons_mk (Below.trod laidOut (by kernel_rfl) (of_decide_eq_true (by kernel_rfl)) k0 bel lt0) (trodAll_cons_mk (Below.trod laidOut (by kernel_rfl) (of_decide_eq_true (by kernel_rfl)) k1 bel lt1) trodAll_mk0)), rfl, bel.frame _, fun h => by cases h⟩

theorem over : Rows.VmRunsSaid :=
  OpenClaim.holds_of_wide 3 Try.f3 rfl rfl rfl rfl rfl rfl rfl ⟨rfl, rfl, rfl, rfl, rfl⟩ rfl rfl rfl rfl rfl (by kernel_rfl) Try.func3 (by kernel_rfl)
    (of_decide_eq_true (by kernel_rfl)) (by unfold Func.isWrapper; first | (rw [if_pos (by decide +kernel)]; kernel_rfl) | (rw [if_neg (by decide +kernel)]; exact ⟨rfl, rfl⟩))
    (fun os started H enc _ => lifted os started H enc)

end vmRuns

theorem vmRuns_holds : Rows.VmRunsSaid := vmRuns.over
#print axioms vmRuns_holds
end Go.Proofs.Ytaldhnionkacmaa
